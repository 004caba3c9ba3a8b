/-
  The walks of package entry's Size and Half, and of the document's.
-/
import Derived.Test.YtmamnlphhiaeoaaEnProg
namespace Go.Proofs.Ytmamnlphhiaeoaa
open Go.Shelf Go.RowKit Go.Lib Go.Sort

theorem szE_le {l : List En} {i : Nat} (h : i < l.length) : szL (l.take i) + szE l[i]! ≤ szL l := by
  rw [← szL_snoc h]; exact szL_take_le _ _

set_option maxHeartbeats 2000000 in
set_option maxRecDepth 100000 in
theorem size_any (v : Value) (l : List En) (w : World) (h : Row encP 2 w v l) (hl : l.length ≤ 1000000) (hs : szL l ≤ 1000000000) :
    Calls Try.prog 35 #[v] w fun e w' => e = .returned (.int .i64 (szL l)) ∧ Below w.heap.size w w' := by
  obtain ⟨ao, cap, rfl, h1, h2, h3⟩ := h
  have H3 : Aside (l ≠ [] → ∃ b off, ao = some ⟨b, off, none⟩ ∧ b < w.heap.size ∧ CellsK encP 2 w b off l) := h3
  clear h3
  go_enter Try.func35, Try.ntmps35
  go_wp2
  go_loopg [3, 8] l.length (fun kx s3 s8 wr => ∃ (i n : Nat), s3 = .int .i64 n ∧ s8 = .int .i64 i ∧ i ≤ l.length ∧ l.length - i ≤ kx ∧ Hid (szL (l.take i) = n) ∧ Hid (Below w.heap.size w wr))
  case atStart => exact ⟨0, 0, rfl, rfl, Nat.zero_le _, Nat.le_refl _, rfl, Below.refl _ _⟩
  case round =>
    obtain ⟨i, n, rfl, rfl, hi, hki, HS, HB⟩ := hrel
    by_cases hil : i < l.length
    · have hilz : (i : Int) < (l.length : Int) := by omega
      obtain ⟨b, off, rfl, hb, x1, x2⟩ := row_at H3.out i hil HB.out
      have hle := szE_le hil
      have T : Hid (szL (l.take (i + 1)) = szL (l.take i) + szE l[i]!) := szL_snoc hil
      rw [HS.out] at T hle
      generalize l[i]! = x at *
      have B2 : Hid (Below w.heap.size w (wr.alloc (.cells #[.string x.1, .string x.2] 56))) := HB.out.alloc HB.out.size _
      unfold szE at T hle
      have hx : n + (2 + x.1.size + x.2.size) ≤ 1000000000 := by omega
      clear hle
      go_wp2
      go_roundg (l.length - (i + 1))
      case measure => omega
      case rel => exact ⟨i + 1, n + (2 + x.1.size + x.2.size), by go_num, by go_num, by omega, Nat.le_refl _, T, B2⟩
    · have hilz : ¬ (i : Int) < (l.length : Int) := by omega
      obtain rfl : i = l.length := by omega
      rw [List.take_length] at HS
      go_wp2
      go_ret
      exact ⟨ret_i (by rw [HS.out]), HB.out⟩

theorem size_one (q : Nat) (x : En) (w : World) (t : TypeId) (h : Cl w q #[.string x.1, .string x.2] t) (hs : szE x ≤ 1000000000) :
    Calls Try.prog 35 #[.slice (some ⟨q, 0, none⟩) 1 1] w fun e w' => e = .returned (.int .i64 (szE x)) ∧ Below w.heap.size w w' :=
  (size_any _ [x] w h.row (by simp) (by simpa [szL] using hs)).mono fun _ _ h => by simpa [szL] using h

set_option maxHeartbeats 4000000 in
set_option maxRecDepth 100000 in
theorem half_any (v : Value) (l : List En) (w : World) (h : Row encP 2 w v l) (hl : l.length ≤ 1000000) (hs : szL l ≤ 1000000000) :
    Calls Try.prog 46 #[v] w fun e w' => e = .returned (.int .i64 (hfN l)) ∧ Below w.heap.size w w' := by
  by_cases h2l : l.length < 2
  · obtain ⟨ao, c, rfl, _⟩ := h.shape
    rw [hfN_short h2l]
    have hz : (l.length : Int) < 2 := by omega
    clear h
    go_enter Try.func46, Try.ntmps46
    go_wp2
    go_ret
    exact ⟨rfl, Below.refl _ _⟩
  · have C : Hid _ := size_any v l w h hl hs
    obtain ⟨ao, cap, rfl, h1, h2, h3⟩ := h
    have H3 : Aside (l ≠ [] → ∃ b off, ao = some ⟨b, off, none⟩ ∧ b < w.heap.size ∧ CellsK encP 2 w b off l) := h3
    clear h3
    obtain ⟨n, hn⟩ : ∃ n, l.length = n + 1 := ⟨l.length - 1, by omega⟩
    have N : Hid (l.length = n + 1) := hn
    rw [hn] at C h2l hl h1 ⊢
    have e1 := run_pre ao (n + 1) cap n (by omega)
    obtain ⟨S, hS⟩ : ∃ S, szL l = S := ⟨_, rfl⟩
    have HSS : Hid (szL l = S) := hS
    rw [hS] at C hs
    have hz : ¬ ((n : Int) + 1 < 2) := by omega
    clear hS hn
    go_enter Try.func46, Try.ntmps46
    go_upto_region 4 with (go_at_call 35; refine Calls.mono C.out ?_; rintro e w1 ⟨rfl, hb⟩)
    have B1 : Hid (Below w.heap.size w w1) := hb
    clear hb C
    go_wp2
    go_loopg [3, 4, 18] n (fun kx s3 s4 s18 wr => ∃ (i f : Nat), s3 = .int .i64 f ∧ s4 = .int .i64 ((S : Int) - (f : Int)) ∧ s18 = .int .i64 i ∧ i ≤ n ∧ n - i ≤ kx ∧ f ≤ S ∧ Hid (szL (l.take i) = f) ∧ Hid (∀ j, j < i → hfB l j = false) ∧ Hid (Below w.heap.size w wr))
    case atStart => exact ⟨0, 0, rfl, by simp, rfl, Nat.zero_le _, Nat.le_refl _, Nat.zero_le _, rfl, fun j hj => absurd hj (Nat.not_lt_zero _), B1⟩
    case round =>
      obtain ⟨i, f, rfl, rfl, rfl, hi, hki, hfS, HS, HN, HB⟩ := hrel
      by_cases hil : i < n
      · have hilz : (i : Int) < (n : Int) := by omega
        have hill : i < l.length := by have := N.out; omega
        obtain ⟨b, off, rfl, hb, x1, x2⟩ := row_at H3.out i hill HB.out
        have hle := szE_le hill
        have T : Hid (szL (l.take (i + 1)) = szL (l.take i) + szE l[i]!) := szL_snoc hill
        rw [HS.out] at T hle
        rw [HSS.out] at hle
        generalize l[i]! = x at *
        obtain ⟨z, hz2⟩ : ∃ z, szE x = z := ⟨_, rfl⟩
        rw [hz2] at T hle
        have Z : Hid (szE x = z) := hz2
        clear hz2
        have K1 : Hid (Cl (wr.alloc (.cells #[.string x.1, .string x.2] 56)) wr.heap.size #[.string x.1, .string x.2] 56) := Cl.new _ _ _
        have B2 : Hid (Below w.heap.size w (wr.alloc (.cells #[.string x.1, .string x.2] 56))) := HB.out.alloc HB.out.size _
        go_upto_region 7 with fail
        generalize wr.alloc (.cells #[.string x.1, .string x.2] 56) = W at *
        generalize wr.heap.size = p at *
        obtain ⟨y1, y2⟩ := K1.out.two
        have K2 : Hid (Cl (W.alloc (.cells #[.string x.1, .string x.2] 56)) W.heap.size #[.string x.1, .string x.2] 56) := Cl.new _ _ _
        have B3 : Hid (Below w.heap.size w (W.alloc (.cells #[.string x.1, .string x.2] 56))) := B2.out.alloc B2.out.size _
        have C1 : Hid _ := size_one _ x _ _ K2.out (by rw [Z.out]; omega)
        rw [Z.out] at C1
        have plt := K1.out.lt
        go_upto_region 8 with (go_at_call 35; refine Calls.mono C1.out ?_; rintro e w3 ⟨rfl, hb3⟩)
        have B4 : Hid (Below w.heap.size w w3) := B3.out.trans (hb3.mono B3.out.size)
        have K4 : Hid (Cl w3 p #[.string x.1, .string x.2] 56) := (K1.out.alloc _).on hb3
        clear hb3 C1 K2 K1 y1 y2 B2 B3
        obtain ⟨y1, y2⟩ := K4.out.two
        have K5 : Hid (Cl (w3.alloc (.cells #[.string x.1, .string x.2] 56)) w3.heap.size #[.string x.1, .string x.2] 56) := Cl.new _ _ _
        have B5 : Hid (Below w.heap.size w (w3.alloc (.cells #[.string x.1, .string x.2] 56))) := B4.out.alloc B4.out.size _
        have C2 : Hid _ := size_one _ x _ _ K5.out (by rw [Z.out]; omega)
        rw [Z.out] at C2
        have plt4 := K4.out.lt
        go_upto_region 9 with (go_at_call 35; refine Calls.mono C2.out ?_; rintro e w6 ⟨rfl, hb6⟩)
        have B6 : Hid (Below w.heap.size w w6) := B5.out.trans (hb6.mono B5.out.size)
        clear hb6 C2 K5 K4 y1 y2 B4 B5
        by_cases hc : S ≤ 2 * (f + z)
        · have hcz : (S : Int) - (f : Int) - (z : Int) ≤ (f : Int) + (z : Int) := by omega
          have E : Hid (hfN l = i + 1) := hfN_here (by have := N.out; omega) HN.out (by unfold hfB; rw [HSS.out, T.out]; exact decide_eq_true hc)
          clear HN
          go_wp2
          go_ret
          exact ⟨ret_i (by rw [E.out]; omega), B6.out⟩
        · have hcz : ¬ (S : Int) - (f : Int) - (z : Int) ≤ (f : Int) + (z : Int) := by omega
          have N2 : Hid (∀ j, j < i + 1 → hfB l j = false) := fun j hj => by
            rcases Nat.lt_or_ge j i with d | d
            · exact HN.out j d
            · obtain rfl : j = i := by omega
              unfold hfB; rw [HSS.out, T.out]; exact decide_eq_false hc
          clear HN
          go_wp2
          go_roundg (n - (i + 1))
          case measure => omega
          case rel => exact ⟨i + 1, f + z, by go_num, by go_num, by go_num, by omega, Nat.le_refl _, by omega, T, N2, B6⟩
      · have hilz : ¬ (i : Int) < (n : Int) := by omega
        obtain rfl : i = n := by omega
        have E : Hid (hfN l = i) := by
          have := hfN_end (l := l) (by rw [N.out]; exact HN.out)
          rw [N.out] at this
          exact this
        clear HN
        go_wp2
        go_ret
        exact ⟨ret_i (by rw [E.out]), HB.out⟩

end Go.Proofs.Ytmamnlphhiaeoaa
