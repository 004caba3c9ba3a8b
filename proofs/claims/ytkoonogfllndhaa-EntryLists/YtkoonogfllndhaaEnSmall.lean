/-
  The walks of package entry's small functions: Check, Find, right.
-/
import Derived.Test.YtkoonogfllndhaaEnOwn
import Derived.Test.YtkoonogfllndhaaShelf
import Derived.Deep.LoopGhost
import Derived.BigQuiet
namespace Go.Proofs.Ytkoonogfllndhaa
open Go.Shelf Go.RowKit Go.Lib Go.Sort

/-- What Check answers. -/
def chkE (k v : ByteArray) : Int := if mayB k v = true then 0 else 110

theorem ret_b {a b : Bool} (h : a = b) : Ending.returned (.bool a) = Ending.returned (.bool b) := by rw [h]
theorem ret_i {a b : Int} (h : a = b) : Ending.returned (.int .i64 a) = Ending.returned (.int .i64 b) := by rw [h]

theorem chkE_no {k v : ByteArray} (h : ¬ (1 ≤ k.size ∧ k.size ≤ 16 ∧ v.size ≤ 40)) : chkE k v = 110 := by
  unfold chkE
  rw [if_neg fun c => h (mayB_iff.1 c)]
theorem chkE_yes {k v : ByteArray} (h : 1 ≤ k.size ∧ k.size ≤ 16 ∧ v.size ≤ 40) : chkE k v = 0 := by
  unfold chkE
  rw [if_pos (mayB_iff.2 h)]

theorem toL_size (s : ByteArray) : s.toList.length = s.size := by rw [Lib.toList_data, Lib.size_eq]

theorem empty_of {k : ByteArray} (h : k.size = 0) : k = ⟨#[]⟩ := by
  apply ByteArray.ext
  apply Array.toList_inj.1
  rw [Lib.size_eq] at h
  exact List.eq_nil_of_length_eq_zero h
theorem toL_ne {k : ByteArray} (h : k.size ≠ 0) : ¬ k.toList = [] := by
  intro e
  have := congrArg List.length e
  rw [toL_size] at this
  exact h this
theorem toL_full {k : ByteArray} (h : k.size ≠ 0) : k.toList.isEmpty = false := by
  cases e : k.toList with
  | nil => exact absurd e (toL_ne h)
  | cons a l => rfl

set_option maxHeartbeats 1000000 in
theorem check_any (k v : ByteArray) (w : World) : Calls Try.prog 13 #[.string k, .string v] w fun e w' => e = .returned (.int .i64 (chkE k v)) ∧ w = w' := by
  by_cases h1 : k.size = 0
  · have E : Hid (chkE k v = 110) := chkE_no (by omega)
    obtain rfl : k = ⟨#[]⟩ := empty_of h1
    clear h1
    go_enter Try.func13, Try.ntmps13
    go_wp2
    go_ret
    exact ⟨ret_i E.out.symm, rfl⟩
  · have e1 := toL_full h1
    have e2 := toL_ne h1
    by_cases h2 : (16 : Int) < (k.size : Int)
    · have E : Hid (chkE k v = 110) := chkE_no (by omega)
      go_enter Try.func13, Try.ntmps13
      go_wp2
      go_ret
      exact ⟨ret_i E.out.symm, rfl⟩
    · by_cases h3 : (40 : Int) < (v.size : Int)
      · have E : Hid (chkE k v = 110) := chkE_no (by omega)
        go_enter Try.func13, Try.ntmps13
        go_wp2
        go_ret
        exact ⟨ret_i E.out.symm, rfl⟩
      · have E : Hid (chkE k v = 0) := chkE_yes (by omega)
        go_enter Try.func13, Try.ntmps13
        go_wp2
        go_ret
        exact ⟨ret_i E.out.symm, rfl⟩

set_option maxHeartbeats 1000000 in
theorem cmpF_any (x : En) (k : ByteArray) (W : World) : Calls Try.prog 34 #[.agg #[.string x.1, .string x.2], .string k] W fun e w' => e = .returned (.int .i64 (cmpK x.1 k)) ∧ ∃ q os', w' = grow (W.drewN q) os' := by
  have hcon := fun W' => Any.strings_Compare Try.lays106 x.1 k W'
  change ∀ W', Calls Try.prog 35 _ _ _ at hcon
  unfold cmpK
  generalize Lib.compareBytes x.1.data.toList k.data.toList = r at hcon ⊢
  go_enter Try.func34, Try.ntmps34
  go_wp2_with (go_at_call 35; refine (hcon _).mono ?_; rintro e w' ⟨rfl, rfl⟩)
  go_ret
  exact ⟨rfl, 0, _, by rw [alloc_eq_grow]; rfl⟩

/-- What is found: the place, and whether the key stands there. -/
def Fnd (l : List En) (k : ByteArray) (i : Nat) (f : Bool) : Prop := i ≤ l.length ∧ (f = true → i < l.length) ∧ (Rg l → i = fdN l k ∧ f = fdB l k)

theorem Fnd.at {l : List En} {k : ByteArray} {i : Nat} {f : Bool} (hi : i ≤ l.length) (h1 : Rg l → (∀ t, t < i → ltK l[t]!.1 k = true) ∧ (∀ t, i ≤ t → t < l.length → ltK l[t]!.1 k = false)) (hf : f = true ↔ i < l.length ∧ l[i]!.1 = k) : Fnd l k i f := by
  refine ⟨hi, fun e => (hf.1 e).1, fun hr => ?_⟩
  have e := fdN_of hr hi (h1 hr).1 (h1 hr).2
  refine ⟨e, ?_⟩
  rw [Bool.eq_iff_iff, hf, fdB_at hr k, ← e]

set_option maxHeartbeats 4000000 in
set_option maxRecDepth 100000 in
theorem search_any (v : Value) (l : List En) (k : ByteArray) (w : World) (h : Row encP 2 w v l) (hl : l.length ≤ 1000000) :
    Calls Try.prog 33 #[v, .string k, .func (.func 34) #[] #[]] w fun e w' => ∃ (i : Nat) (f : Bool), e = .returned (.tuple #[.int .i64 i, .bool f]) ∧ Fnd l k i f ∧ Below w.heap.size w w' := by
  obtain ⟨ao, cap, rfl, h1, h2, h3⟩ := h
  have H3 : Aside (l ≠ [] → ∃ b off, ao = some ⟨b, off, none⟩ ∧ b < w.heap.size ∧ CellsK encP 2 w b off l) := h3
  clear h3
  have HC : Hid (∀ (x : En) (W : World), Calls Try.prog 34 #[.agg #[.string x.1, .string x.2], .string k] W fun e w' => e = .returned (.int .i64 (cmpK x.1 k)) ∧ ∃ q os', w' = grow (W.drewN q) os') := fun x W => cmpF_any x k W
  go_enter Try.func33, Try.ntmps33
  go_wp2
  go_loopg [9, 10] l.length (fun kx s9 s10 wr => ∃ lo hi : Nat, s9 = .int .i64 lo ∧ s10 = .int .i64 hi ∧ lo ≤ hi ∧ hi ≤ l.length ∧ hi - lo ≤ kx ∧ Hid (GR w wr) ∧ Hid (Rg l → (∀ t, t < lo → ltK l[t]!.1 k = true) ∧ (∀ t, hi ≤ t → t < l.length → ltK l[t]!.1 k = false)))
  case atStart => exact ⟨0, l.length, rfl, rfl, Nat.zero_le _, Nat.le_refl _, by omega, GR.refl _, fun _ => ⟨fun t ht => absurd ht (Nat.not_lt_zero _), fun t h1 h2 => by omega⟩⟩
  case round =>
    obtain ⟨lo, hi, rfl, rfl, hlh, hin, hg, HG, I⟩ := hrel
    by_cases hlt : lo < hi
    · have hml : (lo + hi) / 2 < l.length := by omega
      obtain ⟨b, off, rfl, hb, x1, x2⟩ := row_at H3.out ((lo + hi) / 2) hml HG.out.below
      generalize hx : l[(lo + hi) / 2]! = x at *
      have X : Hid (l[(lo + hi) / 2]! = x) := hx
      clear hx
      have C : Hid _ := HC.out x wr
      obtain ⟨r, hr⟩ : ∃ r, cmpK x.1 k = r := ⟨_, rfl⟩
      have R : Hid (cmpK x.1 k = r) := hr
      rw [hr] at C
      clear hr
      by_cases hyx : r < 0
      · have LT : Hid (ltK x.1 k = true) := (cmpK_lt _ _).1 (by rw [R.out]; exact hyx)
        go_wp2_with (go_at_call 34; refine Calls.mono C.out ?_; rintro e w' ⟨rfl, nq, osq, rfl⟩)
        go_roundg (hi - ((lo + hi) / 2 + 1))
        case measure => omega
        case rel =>
          refine ⟨(lo + hi) / 2 + 1, hi, by rw [show ((lo : Int) + (hi : Int)) / 2 + 1 = (((lo + hi) / 2 + 1 : Nat) : Int) by omega], rfl, by omega, hin, Nat.le_refl _, HG.out.trans ⟨nq, osq, rfl⟩, fun hr => ⟨fun t ht => ?_, (I.out hr).2⟩⟩
          rcases Nat.lt_or_ge t ((lo + hi) / 2) with c | c
          · exact ltK_trans (hr.up.at c hml) (by rw [X.out]; exact LT.out)
          · rw [show t = (lo + hi) / 2 by omega, X.out]; exact LT.out
      · have LT : Hid (ltK x.1 k = false) := by
          show _ = _
          cases e : ltK x.1 k
          · rfl
          · exact absurd (by rw [← R.out]; exact (cmpK_lt _ _).2 e) hyx
        go_wp2_with (go_at_call 34; refine Calls.mono C.out ?_; rintro e w' ⟨rfl, nq, osq, rfl⟩)
        go_roundg ((lo + hi) / 2 - lo)
        case measure => omega
        case rel =>
          refine ⟨lo, (lo + hi) / 2, rfl, by rw [show ((lo : Int) + (hi : Int)) / 2 = (((lo + hi) / 2 : Nat) : Int) by omega], by omega, by omega, Nat.le_refl _, HG.out.trans ⟨nq, osq, rfl⟩, fun hr => ⟨(I.out hr).1, fun t ht htn => ?_⟩⟩
          cases e : ltK l[t]!.1 k
          · rfl
          · exfalso
            rcases Nat.lt_or_ge ((lo + hi) / 2) t with c | c
            · have := ltK_trans (hr.up.at c htn) e
              rw [X.out, LT.out] at this
              cases this
            · rw [show t = (lo + hi) / 2 by omega, X.out, LT.out] at e; cases e
    · obtain rfl : hi = lo := by omega
      by_cases hn : hi < l.length
      · obtain ⟨b, off, rfl, hb, x1, x2⟩ := row_at H3.out hi hn HG.out.below
        generalize hx : l[hi]! = x at *
        have X : Hid (l[hi]! = x) := hx
        clear hx
        have C : Hid _ := HC.out x wr
        obtain ⟨r, hr⟩ : ∃ r, cmpK x.1 k = r := ⟨_, rfl⟩
        have R : Hid (cmpK x.1 k = r) := hr
        rw [hr] at C
        clear hr
        by_cases hyx : r = 0
        · go_wp2_with (go_at_call 34; refine Calls.mono C.out ?_; rintro e w' ⟨rfl, nq, osq, rfl⟩)
          go_ret2
          exact ⟨hi, true, rfl, Fnd.at hin I.out (by rw [X.out]; exact ⟨fun _ => ⟨hn, (cmpK_eq _ _).1 (by rw [R.out]; exact hyx)⟩, fun _ => rfl⟩), (HG.out.trans ⟨nq, osq, rfl⟩).below⟩
        · have hr0 : (r == 0) = false := beq_eq_false_iff_ne.2 hyx
          go_wp2_with (go_at_call 34; refine Calls.mono C.out ?_; rintro e w' ⟨rfl, nq, osq, rfl⟩)
          go_ret2
          exact ⟨hi, false, rfl, Fnd.at hin I.out (by rw [X.out]; exact ⟨(fun h => by cases h), fun h => absurd (by rw [← R.out]; exact (cmpK_eq _ _).2 h.2) hyx⟩), (HG.out.trans ⟨nq, osq, rfl⟩).below⟩
      · go_wp2
        go_ret2
        exact ⟨hi, false, rfl, Fnd.at hin I.out ⟨(fun h => by cases h), fun h => absurd h.1 hn⟩, HG.out.below⟩

set_option maxHeartbeats 1000000 in
theorem find_any (v : Value) (l : List En) (k : ByteArray) (w : World) (h : Row encP 2 w v l) (hl : l.length ≤ 1000000) :
    Calls Try.prog 20 #[v, .string k] w fun e w' => ∃ (i : Nat) (f : Bool), e = .returned (.tuple #[.int .i64 i, .bool f]) ∧ Fnd l k i f ∧ Below w.heap.size w w' := by
  have C : Hid _ := search_any v l k w h hl
  obtain ⟨ao, c, rfl, _⟩ := h.shape
  clear h
  go_enter Try.func20, Try.ntmps20
  go_wp2_with (go_at_call 33; refine Calls.mono C.out ?_; rintro e w' ⟨i, f, rfl, hf, hb⟩)
  go_ret2
  exact ⟨i, f, rfl, hf, hb⟩

end Go.Proofs.Ytkoonogfllndhaa
