/-
  The walk of the law RunsAsk.
-/
import Derived.Test.YtoigljefajbofaaRnLaw
namespace Go.Proofs.Ytoigljefajbofaa
open Go.Shelf Go.RowKit Go.Lib Go.Sort

attribute [local go_sem] Oper.semAt_some

set_option maxRecDepth 100000 in
set_option maxHeartbeats 2000000 in
theorem ask.long_a (va : Value) (a : List Pr) (n most : Int) (w : World) (ha : Row encP 2 w va a) (la : 40 < a.length) : Calls Try.prog 4 #[va, .int .i64 n, .int .i64 most] w fun e w' => e = .returned (.bool true) ∧ Below w.heap.size w w' := by
  obtain ⟨aoa, capa, rfl, _⟩ := id ha
  have ia : (40 : Int) < (a.length : Int) := by omega
  have B0 : Hid (Below w.heap.size w (w.alloc (.cells #[.bool false] 4))) := (Below.refl _ w).alloc (Nat.le_refl _) _
  have x0 : Hid (Boxed (w.alloc (.cells #[.bool false] 4)) w.heap.size 4 (.bool false)) := Boxed.new w 4 (.bool false)
  clear ha
  go_enter Try.func4, Try.ntmps4
  go_wp2_with fail
  refine (works_any _).mono ?_
  rintro e w1 ⟨rfl, b1⟩
  have y0 : Boxed w1 w.heap.size 4 (.bool false) := (b1.block _ (by simp)).trans x0.out
  have B1 : Hid (Below w.heap.size w w1) := B0.out.trans (b1.mono (by simp))
  have c0 := y0.cell
  have f0 := y0.frozen
  have Y0 : Hid (Boxed w1 w.heap.size 4 (.bool false)) := y0
  clear b1 y0
  go_wp2
  (try simp only [Exit.inBlock, Exit.then])
  refine bodyPost_ret (v := .bool true) ?_ rfl ⟨rfl, B1.out.setCell (p := ⟨w.heap.size, 0, none⟩) (Nat.le_refl _) _⟩
  rw [results_cell rfl]
  have z0 := (Y0.out.set (.bool true)).cell
  simp [go_sem, z0]

set_option maxRecDepth 100000 in
set_option maxHeartbeats 2000000 in
theorem ask.long_m (va : Value) (a : List Pr) (n most : Int) (w : World) (ha : Row encP 2 w va a) (la : a.length ≤ 40) (lm : 1000 < most) : Calls Try.prog 4 #[va, .int .i64 n, .int .i64 most] w fun e w' => e = .returned (.bool true) ∧ Below w.heap.size w w' := by
  obtain ⟨aoa, capa, rfl, _⟩ := id ha
  have ia : ¬ (40 : Int) < (a.length : Int) := by omega
  have B0 : Hid (Below w.heap.size w (w.alloc (.cells #[.bool false] 4))) := (Below.refl _ w).alloc (Nat.le_refl _) _
  have x0 : Hid (Boxed (w.alloc (.cells #[.bool false] 4)) w.heap.size 4 (.bool false)) := Boxed.new w 4 (.bool false)
  clear ha
  go_enter Try.func4, Try.ntmps4
  go_wp2_with fail
  refine (works_any _).mono ?_
  rintro e w1 ⟨rfl, b1⟩
  have y0 : Boxed w1 w.heap.size 4 (.bool false) := (b1.block _ (by simp)).trans x0.out
  have B1 : Hid (Below w.heap.size w w1) := B0.out.trans (b1.mono (by simp))
  have c0 := y0.cell
  have f0 := y0.frozen
  have Y0 : Hid (Boxed w1 w.heap.size 4 (.bool false)) := y0
  clear b1 y0
  go_wp2
  (try simp only [Exit.inBlock, Exit.then])
  refine bodyPost_ret (v := .bool true) ?_ rfl ⟨rfl, B1.out.setCell (p := ⟨w.heap.size, 0, none⟩) (Nat.le_refl _) _⟩
  rw [results_cell rfl]
  have z0 := (Y0.out.set (.bool true)).cell
  simp [go_sem, z0]

theorem OwnI.at {base : Nat} {W : World} {v : Value} {l : List Int} (h : OwnI base W v l) (k : Nat) (hk : k < l.length) : ∃ g cap, v = .slice (some ⟨g, 0, none⟩) l.length cap ∧ W.cell? ⟨g, k, none⟩ = some (.int .i64 l[k]!) := by
  rcases h.2 with ⟨rfl, e⟩ | ⟨g, cap, cur, rfl, hg, hh, hc, hm, hs, ht⟩
  · omega
  · refine ⟨g, cap, rfl, ?_⟩
    have : cur[k]? = (l.map (Value.int .i64))[k]? := by
      rw [← ht, List.getElem?_take_of_lt (by omega), Array.getElem?_toList]
    simp only [World.cell?, hh]
    rw [this, List.getElem?_map, List.getElem?_eq_getElem hk, getElem!_pos l k hk]
    rfl

theorem OwnI.len {base : Nat} {W : World} {v : Value} {l : List Int} (h : OwnI base W v l) : ∃ ao cap, v = .slice ao l.length cap := by
  rcases h.2 with ⟨rfl, e⟩ | ⟨g, cap, cur, rfl, _⟩
  · exact ⟨none, 0, by rw [e]⟩
  · exact ⟨_, _, rfl⟩

theorem getI_append {p t : List Int} {k : Nat} (h : k < p.length) : (p ++ t)[k]! = p[k]! := by
  rw [getElem!_pos _ k (by simp; omega), getElem!_pos p k h, List.getElem_append_left h]

theorem getI_take {l : List Int} {m k : Nat} (h : k < (l.take m).length) : (l.take m)[k]! = l[k]! := by
  have h2 : k < l.length := by simp at h; omega
  rw [getElem!_pos _ k h, getElem!_pos l k h2, List.getElem_take]

theorem nums_at {s : List Pr} {i j : Nat} (hi : i < s.length) (hj : (j : Int) < s[i]!.2 - s[i]!.1 + 1) : (numsL (s.take i)).length + j < (numsL s).length ∧ (numsL s)[(numsL (s.take i)).length + j]! = s[i]!.1 + (j : Int) := by
  have e := nums_split hi
  have hl : (numsL s).length = (numsL (s.take i)).length + ((s[i]!.2 - s[i]!.1 + 1).toNat + (numsL (s.drop (i + 1))).length) := by
    rw [e, List.length_append, List.length_append, uptoN_length]
  have h1 : (numsL (s.take i)).length + j < (numsL s).length := by omega
  refine ⟨h1, ?_⟩
  rw [getElem!_pos (numsL s) _ h1]
  have : (numsL s)[(numsL (s.take i)).length + j]? = some (s[i]!.1 + (j : Int)) := by
    rw [e, List.getElem?_append_right (by omega), Nat.add_sub_cancel_left, List.getElem?_append_left (by rw [uptoN_length]; omega)]
    unfold uptoN
    rw [List.getElem?_map, List.getElem?_range (by omega)]
    rfl
  rw [List.getElem?_eq_getElem h1] at this
  exact Option.some.inj this

theorem nums_take_le (s : List Pr) (i : Nat) : (numsL (s.take i)).length ≤ (numsL s).length := by
  by_cases h : i < s.length
  · have := nums_split h
    have := congrArg List.length this
    rw [List.length_append] at this
    omega
  · rw [List.take_of_length_le (by omega)]
    exact Nat.le_refl _

theorem nums_take_succ {s : List Pr} {i : Nat} (h : i < s.length) : (numsL (s.take (i + 1))).length = (numsL (s.take i)).length + (s[i]!.2 - s[i]!.1 + 1).toNat := by
  rw [take_next h, numsL_snoc, List.length_append, uptoN_length]

theorem ownsRow_other {W : World} {base : Nat} {e : TypeId} {k : Nat} {v : Value} {n : Nat} {xs : List Value} (h : W.ownsRow base e k v n xs) {j : Nat} (hj : W.heap.size ≤ j) : v.ownBlock ≠ some j := by
  rcases h.2 with ⟨rfl, _⟩ | ⟨g, cap, cur, rfl, hg, hh, _⟩
  · simp [Value.ownBlock]
  · have := (Array.getElem?_eq_some_iff.1 hh).1
    simp only [Value.ownBlock, ne_eq, Option.some.injEq]
    omega

def OffAt (L p : List Int) (x : Int) : Prop := L[p.length]! ≠ x
/-- The list of numbers, in its variable. -/
def LHolds (b1 base : Nat) (v : Value) (L : List Int) (W : World) : Prop := Boxed W b1 36 v ∧ W.ownsRow base 3 1 v L.length (L.map (Value.int .i64))
theorem lholds_own {β : Type} (b1 base : Nat) (v : Value) (L : List Int) : Go.Own (fun (_ : β) W => LHolds b1 base v L W) := fun _ A B row hs hg hr => by
  obtain ⟨v', h1, h2, rfl⟩ := holdsRow_own base b1 36 3 1 (fun _ : Unit => L.length) (fun _ : Unit => L.map (Value.int .i64)) (fun _ u => u = v) () A B row ⟨v, hs.1, hs.2, rfl⟩ hg hr
  exact ⟨h1, h2⟩
theorem pre_snoc {p L : List Int} {y : Int} (h : p <+: L) (hl : p.length < L.length) (hy : L[p.length]! = y) : p ++ [y] <+: L := by
  obtain ⟨t, ht⟩ := h
  cases t with
  | nil => rw [List.append_nil] at ht; rw [ht] at hl; omega
  | cons z t =>
    have : L[p.length]! = z := by
      rw [getElem!_pos L _ hl]
      subst ht
      simp
    rw [hy] at this
    subst this
    exact ⟨t, by rw [← ht]; simp⟩
theorem nat_nge {k l : Nat} (h : k < l) : ¬ (l : Int) ≤ (k : Int) := by omega
theorem w64_nat {k : Nat} {m : Int} (h : (k : Int) < m) (hm : m ≤ 1000) : wrap64 ((k : Int) + 1) = k + 1 := w64 (by omega) (by omega)
theorem w64_le {m x : Int} (h : m ≤ x) (hx : x ≤ 4294967295) (h0 : 0 ≤ m) : wrap64 (m + 1) = m + 1 := w64 (by omega) (by omega)
theorem nat_ge {m x : Int} {j : Nat} (h : m = x + (j : Int)) (h0 : 0 ≤ x) : 0 ≤ m := by omega
theorem nat_s {a b c : Nat} (h : a = b + c) : a + 1 = b + (c + 1) := by omega
theorem int_s {m x : Int} {j : Nat} (h : m = x + (j : Int)) : m + 1 = x + ((j + 1 : Nat) : Int) := by omega
theorem le_s {m x : Int} (h : m ≤ x) : m + 1 ≤ x + 1 := by omega
theorem nat_le_s {k : Nat} {m : Int} (h : (k : Int) < m) : ((k + 1 : Nat) : Int) ≤ m := by omega
theorem meas_s {m x : Int} (h : m ≤ x) : (x + 1 - (m + 1)).toNat < (x + 1 - m).toNat := by omega

theorem take_lt {N L : List Int} {m k : Nat} (h : N.take m = L) (h1 : k < N.length) (h2 : k < m) : k < L.length := by
  subst h
  rw [List.length_take]
  omega
theorem take_at {N L : List Int} {m k : Nat} {v : Int} (h : N.take m = L) (hk : k < L.length) (hv : N[k]! = v) : L[k]! = v := by
  subst h
  rw [getI_take hk]
  exact hv

theorem fst_some {s : List Pr} (h : s ≠ []) : fstB s = true := by
  cases s with
  | nil => exact absurd rfl h
  | cons r t => rfl

theorem row_first {w : World} {ao : Option Addr} {c : Nat} {s : List Pr} (h : Row encP 2 w (.slice ao s.length c) s) (hne : s ≠ []) : ∃ b off, ao = some ⟨b, off, none⟩ ∧ b < w.heap.size ∧ w.cell? ⟨b, off, none⟩ = some (.int .i64 (fstN s)) ∧ True := by
  obtain ⟨ao', c', e, h1, h2, h3⟩ := h
  cases e
  have hp : 0 < s.length := List.length_pos_iff.2 hne
  obtain ⟨b, off, e2, hb, x1, _⟩ := row_at h3 0 hp (Below.refl _ w)
  refine ⟨b, off, e2, hb, ?_, trivial⟩
  rw [show off + 0 * 2 = off by omega] at x1
  rw [x1]
  cases s with
  | nil => exact absurd rfl hne
  | cons r t => rfl

theorem has_is2 (v : Value) (l : List Pr) (n : Int) (f : Bool) (w : World) (h : Row encP 2 w v l) (hl : l.length ≤ 1000000) (hf : hasB l n = f) : Calls Try.prog 20 #[v, .int .i64 n] w fun e w' => e = .returned (.bool f) ∧ Below w.heap.size w w' := by
  subst hf
  exact has_any v l n w h hl
theorem rhas_is (v : Value) (l : List Pr) (n : Int) (f : Bool) (w : World) (h : Row encP 2 w v l) (hl : l.length ≤ 1000000) (hf : hasB l n = f) : Calls Try.prog 21 #[v, .int .i64 n] w fun e w' => e = .returned (.bool f) ∧ Below w.heap.size w w' := by
  subst hf
  exact rhas_any v l n w h hl

set_option maxRecDepth 100000 in
set_option maxHeartbeats 8000000 in
theorem ask.short (va : Value) (a : List Pr) (n most : Int) (w : World) (ha : Row encP 2 w va a) (la : a.length ≤ 40) (lm : most ≤ 1000) : Calls Try.prog 4 #[va, .int .i64 n, .int .i64 most] w fun e w' => e = .returned (.bool true) ∧ Below w.heap.size w w' := by
  obtain ⟨aoa, capa, rfl, _⟩ := id ha
  have ia : ¬ (40 : Int) < (a.length : Int) := by omega
  have im : ¬ (1000 : Int) < most := by omega
  obtain ⟨w0, hw0⟩ : ∃ w0, w.alloc (.cells #[.bool false] 4) = w0 := ⟨_, rfl⟩
  have B0 : Hid (Below w.heap.size w w0) := by rw [← hw0]; exact (Below.refl _ w).alloc (Nat.le_refl _) _
  have X0 : Hid (Boxed w0 w.heap.size 4 (.bool false)) := by rw [← hw0]; exact Boxed.new w 4 (.bool false)
  have Ra0 : Hid (Row encP 2 w0 (.slice aoa a.length capa) a) := ha.below B0.out
  obtain ⟨f, hf⟩ : ∃ f, hasB a n = f := ⟨_, rfl⟩
  have HF : Hid (hasB a n = f) := hf
  have HC : Hid (Cn (nmL a)) := nmL_cn a
  have ls : (nmL a).length ≤ 40 := by have := nmL_length a; omega
  have HN : Hid (∀ k, k ≤ 100 → nmL a = nmL a) := fun _ _ => rfl
  obtain ⟨s, hs⟩ : ∃ s, nmL a = s := ⟨_, rfl⟩
  have HS : Hid (nmL a = s) := hs
  rw [hs] at HC ls
  obtain ⟨cn, hcn⟩ : ∃ k, cntL s = k := ⟨_, rfl⟩
  have HCN : Hid (cntL s = cn) := hcn
  clear hf hs hcn ha HN
  refine (callsIn_wide (n := 6)).1 ?_
  refine callsIn_of_wp_marks Try.func4 rfl trivial ?_ rfl
  simp only [Try.ntmps4, List.size_toArray, List.length_cons, List.length_nil, Nat.reduceAdd, Nat.reduceSub, Array.replicate_succ, Array.replicate_zero, List.push_toArray, List.append_toArray, List.nil_append, List.cons_append]
  gi_wp2_with fail
  clear hw0
  have C1 : Hid (Calls Try.prog 9 #[] w0 fun e w' => e = .returned (.bool true) ∧ Below w0.heap.size w0 w') := works_any w0
  refine ⟨trivial, (callsIn_wide.2 C1.out).mono ?_⟩
  rintro e w1 ⟨rfl, b1⟩
  have Ra1 : Hid (Row encP 2 w1 _ a) := Ra0.out.below b1
  have X1 : Hid (Boxed w1 w.heap.size 4 (.bool false)) := (b1.block _ X0.out.lt).trans X0.out
  have B1 : Hid (Below w.heap.size w w1) := B0.out.trans (b1.mono B0.out.size)
  clear Ra0 X0 B0 C1 b1
  have C2 : Hid (Calls Try.prog 12 #[.slice aoa a.length capa] w1 fun e w' => (∃ ao c, e = .returned (.slice ao s.length c) ∧ Row encP 2 w' (.slice ao s.length c) s) ∧ Below w1.heap.size w1 w') := by
    show Calls _ _ _ _ _
    have := rnorm_any _ a w1 Ra1.out (by omega)
    rw [HS.out] at this
    exact this.mono fun e w' h => by
      obtain ⟨v', rfl, hr, hb⟩ := h
      obtain ⟨ao, c, rfl, _⟩ := id hr
      exact ⟨⟨ao, c, rfl, hr⟩, hb⟩
  gi_wp2_with fail
  refine ⟨trivial, (callsIn_wide.2 C2.out).mono ?_⟩
  rintro e w2 ⟨⟨aos, cs, rfl, rs⟩, b2⟩
  have Ra2 : Hid (Row encP 2 w2 _ a) := Ra1.out.below b2
  have X2 : Hid (Boxed w2 w.heap.size 4 (.bool false)) := (b2.block _ X1.out.lt).trans X1.out
  have B2 : Hid (Below w.heap.size w w2) := B1.out.trans (b2.mono B1.out.size)
  clear Ra1 X1 B1 C2 b2
  have Rs2 : Hid (Row encP 2 w2 (.slice aos s.length cs) s) := rs
  clear rs
  obtain ⟨x0, hx0⟩ : ∃ k, fstN s = k := ⟨_, rfl⟩
  by_cases h0 : s = []
  · skip
    have FN : Hid (fstN s = x0 ∧ fstB s = false ∧ x0 = 0) := ⟨hx0, by rw [h0]; rfl, by rw [← hx0, h0]; rfl⟩
    have hl0 : ¬ (0 : Int) < (s.length : Int) := by rw [h0]; simp
    obtain rfl : x0 = 0 := FN.out.2.2
    clear hx0
    have C3 : Hid (Calls Try.prog 19 #[.slice aoa a.length capa] w2 fun e w' => e = .returned (.tuple #[.int .i64 0, .bool false]) ∧ Below w2.heap.size w2 w') := by
      show Calls _ _ _ _ _
      have := first_any _ a w2 Ra2.out (by omega)
      rw [HS.out, FN.out.1, FN.out.2.1] at this
      exact this
    gi_wp2_with fail
    refine ⟨trivial, (callsIn_wide.2 C3.out).mono ?_⟩
    rintro e w3 ⟨rfl, b3⟩
    have Ra3 : Hid (Row encP 2 w3 _ a) := Ra2.out.below b3
    have Rs3 : Hid (Row encP 2 w3 _ s) := Rs2.out.below b3
    have X3 : Hid (Boxed w3 w.heap.size 4 (.bool false)) := (b3.block _ X2.out.lt).trans X2.out
    have B3 : Hid (Below w.heap.size w w3) := B2.out.trans (b3.mono B2.out.size)
    clear Ra2 Rs2 X2 B2 C3 b3
    have C4 : Hid (Calls Try.prog 20 #[.slice aoa a.length capa, .int .i64 n] w3 fun e w' => e = .returned (.bool f) ∧ Below w3.heap.size w3 w') := has_is2 _ a n f w3 Ra3.out (by omega) HF.out
    gi_wp2_with fail
    refine ⟨trivial, (callsIn_wide.2 C4.out).mono ?_⟩
    rintro e w4 ⟨rfl, b4⟩
    have Ra4 : Hid (Row encP 2 w4 _ a) := Ra3.out.below b4
    have Rs4 : Hid (Row encP 2 w4 _ s) := Rs3.out.below b4
    have X4 : Hid (Boxed w4 w.heap.size 4 (.bool false)) := (b4.block _ X3.out.lt).trans X3.out
    have B4 : Hid (Below w.heap.size w w4) := B3.out.trans (b4.mono B3.out.size)
    clear Ra3 Rs3 X3 B3 C4 b4
    have C5 : Hid (Calls Try.prog 21 #[.slice aoa a.length capa, .int .i64 n] w4 fun e w' => e = .returned (.bool f) ∧ Below w4.heap.size w4 w') := rhas_is _ a n f w4 Ra4.out (by omega) HF.out
    gi_wp2_with fail
    refine ⟨trivial, (callsIn_wide.2 C5.out).mono ?_⟩
    rintro e w5 ⟨rfl, b5⟩
    have Ra5 : Hid (Row encP 2 w5 _ a) := Ra4.out.below b5
    have Rs5 : Hid (Row encP 2 w5 _ s) := Rs4.out.below b5
    have X5 : Hid (Boxed w5 w.heap.size 4 (.bool false)) := (b5.block _ X4.out.lt).trans X4.out
    have B5 : Hid (Below w.heap.size w w5) := B4.out.trans (b5.mono B4.out.size)
    clear Ra4 Rs4 X4 B4 C5 b5
    have C6 : Hid (Calls Try.prog 22 #[.slice aoa a.length capa] w5 fun e w' => e = .returned (.int .i64 cn) ∧ Below w5.heap.size w5 w') := by
      show Calls _ _ _ _ _
      have := count_any _ a w5 Ra5.out (by omega)
      rw [HS.out, HCN.out] at this
      exact this
    gi_wp2_with fail
    refine ⟨trivial, (callsIn_wide.2 C6.out).mono ?_⟩
    rintro e w6 ⟨rfl, b6⟩
    have Ra6 : Hid (Row encP 2 w6 _ a) := Ra5.out.below b6
    have Rs6 : Hid (Row encP 2 w6 _ s) := Rs5.out.below b6
    have X6 : Hid (Boxed w6 w.heap.size 4 (.bool false)) := (b6.block _ X5.out.lt).trans X5.out
    have B6 : Hid (Below w.heap.size w w6) := B5.out.trans (b6.mono B5.out.size)
    clear Ra5 Rs5 X5 B5 C6 b6
    have C7 : Hid (Calls Try.prog 23 #[.slice aoa a.length capa] w6 fun e w' => e = .returned (.int .i64 cn) ∧ Below w6.heap.size w6 w') := by
      show Calls _ _ _ _ _
      have := rcount_any _ a w6 Ra6.out (by omega)
      rw [HS.out, HCN.out] at this
      exact this
    gi_wp2_with fail
    refine ⟨trivial, (callsIn_wide.2 C7.out).mono ?_⟩
    rintro e w7 ⟨rfl, b7⟩
    have Ra7 : Hid (Row encP 2 w7 _ a) := Ra6.out.below b7
    have Rs7 : Hid (Row encP 2 w7 _ s) := Rs6.out.below b7
    have X7 : Hid (Boxed w7 w.heap.size 4 (.bool false)) := (b7.block _ X6.out.lt).trans X6.out
    have B7 : Hid (Below w.heap.size w w7) := B6.out.trans (b7.mono B6.out.size)
    clear Ra6 Rs6 X6 B6 C7 b7
    have hb7 : w.heap.size < w7.heap.size := X7.out.lt
    obtain ⟨L, hL⟩ : ∃ L, (numsL s).take most.toNat = L := ⟨_, rfl⟩
    have HL : Hid ((numsL s).take most.toNat = L) := hL
    clear hL
    have C8 : Hid (Calls Try.prog 24 #[.slice aoa a.length capa, .int .i64 most] w7 fun e w' => (∃ ao c, e = .returned (.slice ao L.length c) ∧ OwnI w7.heap.size w' (.slice ao L.length c) L) ∧ Below w7.heap.size w7 w') := by
      show Calls _ _ _ _ _
      have := list_any _ a most w7 Ra7.out (by omega)
      rw [HS.out, HL.out] at this
      exact this.mono fun e w' h => by
        obtain ⟨v', rfl, ho, hb⟩ := h
        obtain ⟨ao, c, rfl⟩ := ho.len
        exact ⟨⟨ao, c, rfl, ho⟩, hb⟩
    gi_wp2_with fail
    refine ⟨trivial, (callsIn_wide.2 C8.out).mono ?_⟩
    rintro e w8 ⟨⟨aol, cl, rfl, ol⟩, b8⟩
    have Ra8 : Hid (Row encP 2 w8 _ a) := Ra7.out.below b8
    have Rs8 : Hid (Row encP 2 w8 _ s) := Rs7.out.below b8
    have X8 : Hid (Boxed w8 w.heap.size 4 (.bool false)) := (b8.block _ X7.out.lt).trans X7.out
    have B8 : Hid (Below w.heap.size w w8) := B7.out.trans (b8.mono B7.out.size)
    clear Ra7 Rs7 X7 B7 C8 b8
    obtain ⟨w9, hw9⟩ : ∃ w9, w8.alloc (.cells #[.slice aol L.length cl] 36) = w9 := ⟨_, rfl⟩
    have b9 : Below w8.heap.size w8 w9 := by rw [← hw9]; exact (Below.refl _ _).alloc (Nat.le_refl _) _
    have Ra9 : Hid (Row encP 2 w9 (.slice aoa a.length capa) a) := Ra8.out.below b9
    have Rs9 : Hid (Row encP 2 w9 _ s) := Rs8.out.below b9
    have X9 : Hid (Boxed w9 w.heap.size 4 (.bool false)) := (b9.block _ X8.out.lt).trans X8.out
    have B9 : Hid (Below w.heap.size w w9) := B8.out.trans (b9.mono B8.out.size)
    have hb1 : w.heap.size + 1 ≤ w8.heap.size := X8.out.lt
    have OL : Hid (OwnI w7.heap.size w9 (.slice aol L.length cl) L) := by show OwnI _ _ _ _; rw [← hw9]; exact ol.alloc _
    have XL : Hid (Boxed w9 w8.heap.size 36 (.slice aol L.length cl)) := by show Boxed _ _ _ _; rw [← hw9]; exact Boxed.new _ _ _
    have hg0 : (Value.slice aol L.length cl).ownBlock ≠ some w.heap.size := fun e => own_ne ol (j := w.heap.size) hb7 e.symm
    clear b9 Ra8 Rs8 X8 B8 ol hb7
    generalize hb1e : w8.heap.size = b1 at *
    generalize w7.heap.size = base at *
    have cL := XL.out.cell
    have HW9 : Hid (w8.alloc (.cells #[.slice aol L.length cl] 36) = w9) := hw9
    gi_wp2
    clear hw9
    obtain ⟨_, _, es9, _, _, q3⟩ := id Rs9.out
    cases es9
    have H3 : Hid _ := q3
    clear q3
    have HG0 : Hid ((Value.slice aol L.length cl).ownBlock ≠ some w.heap.size) := hg0
    gi_loopw [12, 13] (fun s12 s13 wr => ∃ k i : Nat, s12 = .int .i64 k ∧ s13 = .int .i64 i ∧ i ≤ s.length ∧ Hid (k = min (numsL (s.take i)).length most.toNat) ∧ wr = w9) (fun _ s13 _ => s.length - (intOf s13).toNat)
    case atStart => exact ⟨0, 0, rfl, rfl, Nat.zero_le _, by simp [Hid, numsL], rfl⟩
    case round =>
      obtain ⟨k, i, rfl, rfl, hi, HKM, rfl⟩ := hrel
      by_cases hil : i < s.length
      · exfalso; omega
      · have hilz : ¬ (i : Int) < (s.length : Int) := by omega
        have HK : Hid (k = L.length) := by
          show _ = _
          have h1 := HKM.out
          rw [List.take_of_length_le (by omega)] at h1
          rw [← HL.out, List.length_take]
          omega
        obtain ⟨w10, hw10⟩ : ∃ w10, wr.alloc (.cells #[.int .i64 0] 3) = w10 := ⟨_, rfl⟩
        have b10 : Below wr.heap.size wr w10 := by rw [← hw10]; exact (Below.refl _ _).alloc (Nat.le_refl _) _
        have Ra10 : Hid (Row encP 2 w10 (.slice aoa a.length capa) a) := Ra9.out.below b10
        have X10 : Hid (Boxed w10 w.heap.size 4 (.bool false)) := (b10.block _ X9.out.lt).trans X9.out
        have XL10 : Hid (Boxed w10 b1 36 (.slice aol L.length cl)) := (b10.block _ XL.out.lt).trans XL.out
        have X2 : Hid (Boxed w10 wr.heap.size 3 (.int .i64 0)) := by show Boxed _ _ _ _; rw [← hw10]; exact Boxed.new _ _ _
        have B10 : Hid (Below w.heap.size w w10) := B9.out.trans (b10.mono B9.out.size)
        have OL10 : Hid (OwnI base w10 (.slice aol L.length cl) L) := ownsRow_below OL.out b10
        have HG : Hid ((Value.slice aol L.length cl).ownBlock ≠ some wr.heap.size) := ownsRow_other OL.out (Nat.le_refl _)
        have hb12 : b1 < wr.heap.size := XL.out.lt
        have ek : ((L.length : Int) == (k : Int)) = true := beq_iff_eq.2 (by rw [HK.out])
        have HW10 : Hid (wr.alloc (.cells #[.int .i64 0] 3) = w10) := hw10
        clear hw10
        have C11 : Hid (Calls Try.prog 25 #[.slice aoa a.length capa] w10 fun e w' => ∃ Bs sv, e = .returned (.func (.func 35) #[] #[.pointer (some ⟨Bs, 0, none⟩)]) ∧ w10.heap.size ≤ Bs ∧ Boxed w' Bs 22 sv ∧ OwnP w10.heap.size w' sv s ∧ Below w10.heap.size w10 w') := by
          show Calls _ _ _ _ _
          have := all_any _ a w10 Ra10.out (by omega)
          rw [HS.out] at this
          exact this
        clear b10 Ra9 X9 XL B9 OL cL
        gi_wp2_with fail
        rw [HW10.out]
        clear HW10 HW9
        generalize wr.heap.size = b2 at *
        refine ⟨trivial, (callsIn_wide.2 C11.out).mono ?_⟩
        rintro e w11 ⟨Bs, sv, rfl, hBs, hbx, ho, hb⟩
        gi_wp2
        have y0 : Boxed w11 w.heap.size 4 (.bool false) := (hb.block _ X10.out.lt).trans X10.out
        have y1 : Boxed w11 b1 36 (.slice aol L.length cl) := (hb.block _ XL10.out.lt).trans XL10.out
        have y2 : Boxed w11 b2 3 (.int .i64 0) := (hb.block _ X2.out.lt).trans X2.out
        have BW : Below w.heap.size w w11 := B10.out.trans (hb.mono B10.out.size)
        have OW : OwnI base w11 (.slice aol L.length cl) L := ownsRow_below OL10.out hb
        clear C11 Ra10 X10 XL10 X2 B10 OL10
        refine wpIn_rangeFunc_ownG rfl (by decide) (gf := 35) (lb := #[.pointer (some ⟨Bs, 0, none⟩)]) rfl trivial (enters_of Try.func35 (by kernel_rfl) rfl)
          (all_stops 5 Bs sv s HC.out (by omega) (by decide) w11 hbx _ ho) KpR.t (KpR.b (w := w11)) (Below.refl _ _) (fun _ => rfl)
          (fun pre W => (LHolds b1 base (.slice aol L.length cl) L W ∧ (Boxed W b2 3 (.int .i64 (pre.length : Int)) ∧ Boxed W w.heap.size 4 (.bool false) ∧ pre <+: L)) ∧ Below w.heap.size w W)
          (fun c pre W => (LHolds b1 base (.slice aol L.length cl) L W ∧ (∃ p x, pre = p ++ [x] ∧ p <+: L ∧ ((c = .exit 4 ∧ L.length ≤ p.length ∧ Boxed W b2 3 (.int .i64 (p.length : Int)) ∧ Boxed W w.heap.size 4 (.bool false)) ∨ (c = .ret ∧ p.length < L.length ∧ OffAt L p x)))) ∧ Below w.heap.size w W)
          (OwnFrom.and (OwnFrom.and (Own.from (lholds_own b1 base (.slice aol L.length cl) L) _) (Own.from (fun s A B row hs hg hr => ⟨boxed_own _ _ (fun _ : Unit => _) () A B row hs.1 hg hr, boxed_own _ _ (fun _ : Unit => _) () A B row hs.2.1 hg hr, hs.2.2⟩) _)) (ownFrom_below (Nat.le_refl _) BW.size))
          (fun c => OwnFrom.and (OwnFrom.and (Own.from (lholds_own b1 base (.slice aol L.length cl) L) _) (Own.from (fun s A B row hs hg hr => by
            obtain ⟨p, x, e, hp, h⟩ := hs
            refine ⟨p, x, e, hp, ?_⟩
            rcases h with ⟨h1, h2, h3, h4⟩ | h
            · exact Or.inl ⟨h1, h2, boxed_own _ _ (fun _ : Unit => _) () A B row h3 hg hr, boxed_own _ _ (fun _ : Unit => _) () A B row h4 hg hr⟩
            · exact Or.inr h) _)) (ownFrom_below (Nat.le_refl _) BW.size))
          ⟨⟨⟨y1, OW⟩, y2, y0, List.nil_prefix⟩, BW⟩ ?a1nb ?assignnb ?bodynb ?donenb ?stopnb
        case assignnb =>
          intro l x W K hK
          gi_wp2
          exact hK
        case bodynb =>
          rintro l pre x W ⟨⟨⟨hv, hrow⟩, h2, h3, hpre⟩, hB⟩ hlt
          have c1 := hv.cell
          have c2 := h2.cell
          have f2 := h2.frozen
          have c3 := h3.cell
          have f3 := h3.frozen
          have hpl := hpre.length_le
          have lL : L.length ≤ 1000 := by rw [← HL.out, List.length_take]; omega
          by_cases hge : L.length ≤ pre.length
          · have hgez : (L.length : Int) ≤ (pre.length : Int) := by omega
            gi_wp2
            exact ⟨KeepsFrom.refl _ _, ⟨⟨hv, hrow⟩, pre, x, rfl, hpre, Or.inl ⟨rfl, hge, h2, h3⟩⟩, hB⟩
          · have hgez : ¬ (L.length : Int) ≤ (pre.length : Int) := by omega
            obtain ⟨g, cg, eg, cg2⟩ := OwnI.at hrow pre.length (by omega)
            cases eg
            have hpz : (pre.length : Int) < (L.length : Int) := by omega
            obtain ⟨y, hy⟩ : ∃ y, L[pre.length]! = y := ⟨_, rfl⟩
            rw [hy] at cg2
            have HY : Hid (L[pre.length]! = y) := hy
            have HPL : Hid (pre.length < L.length) := by show _ < _; omega
            clear hy
            have e1 : wrap64 ((pre.length : Int) + 1) = pre.length + 1 := w64 (by omega) (by omega)
            clear hge hpl lL
            by_cases hx : y = x
            · subst hx
              gi_wp2
              refine ⟨(KeepsOthers.setCell _ _ _).from _, KpR.setBox h2 (by decide) _, ⟨⟨hv.other (Nat.ne_of_lt hb12) _, ownsRow_setCell_other hrow (a := ⟨b2, 0, none⟩) HG.out _⟩, ?_, h3.other (by omega) _, ?_⟩, hB.setCell (p := ⟨b2, 0, none⟩) (by simp; omega) _⟩
              · have := h2.set (.int .i64 ((pre.length : Int) + 1))
                simpa using this
              · exact pre_snoc hpre HPL.out HY.out
            · have hxb : (y != x) = true := bne_iff_ne.2 hx
              have HX : OffAt L pre x := by show _ ≠ _; rw [HY.out]; exact hx
              clear hx
              gi_wp2
              exact ⟨(KeepsOthers.setCell _ _ _).from _, ⟨⟨hv.other (by omega) _, ownsRow_setCell_other hrow (a := ⟨w.heap.size, 0, none⟩) HG0.out _⟩, pre, x, rfl, hpre, Or.inr ⟨rfl, HPL.out, HX⟩⟩, hB.setCell (p := ⟨w.heap.size, 0, none⟩) (Nat.le_refl _) _⟩
        case donenb =>
          rintro D ys W hD rfl ⟨⟨⟨hv, hrow⟩, h2, h3, hpre⟩, hB⟩ hK
          have c1 := hv.cell
          have c2 := h2.cell
          have c3 := h3.cell
          have f3 := h3.frozen
          have ei : (((numsL s).length : Int) == (k : Int)) = true := beq_iff_eq.2 (by
            have h1 := hpre.length_le
            have h4 : L.length ≤ (numsL s).length := by rw [← HL.out, List.length_take]; omega
            have := HK.out
            omega)
          rw [h0] at ei
          gi_wp2
          have hK' := (KeepsOthers.setCell W ⟨w.heap.size, 0, none⟩ (.bool true)).same D _ hK rfl
          have z0 := (h3.set (.bool true)).kept (grownBy_putObj' _ D (.deferred none)) (by have := y0.lt; simp; omega)
          refine ⟨by simp, .inl ⟨_, _, rfl, run_takeDeferred hK', ?_⟩⟩
          refine ⟨.bool true, ?_, rfl, (hB.setCell (p := ⟨w.heap.size, 0, none⟩) (Nat.le_refl _) _).trans (belowK_b (w := w) (Nat.le_refl _) _ D _ _ (by have := BW.size; omega) hK' rfl rfl)⟩
          simp [results, Try.f4, go_sem, z0.cell]
        case stopnb =>
          rintro D c pre W hD hsp ⟨⟨⟨hv, hrow⟩, p, x, rfl, hpre, hcase⟩, hB⟩ hK
          rcases hcase with ⟨rfl, hge, h2, h3⟩ | ⟨rfl, hlt, hne⟩
          · have c1 := hv.cell
            have c2 := h2.cell
            have c3 := h3.cell
            have f3 := h3.frozen
            have ei : ((p.length : Int) == (k : Int)) = true := beq_iff_eq.2 (by
              have h1 := hpre.length_le
              have := HK.out
              omega)
            gi_wp2
            have hK' := (KeepsOthers.setCell W ⟨w.heap.size, 0, none⟩ (.bool true)).same D _ hK rfl
            have z0 := (h3.set (.bool true)).kept (grownBy_putObj' _ D (.deferred none)) (by have := y0.lt; simp; omega)
            refine ⟨by simp, .inl ⟨_, _, rfl, run_takeDeferred hK', ?_⟩⟩
            refine ⟨.bool true, ?_, rfl, (hB.setCell (p := ⟨w.heap.size, 0, none⟩) (Nat.le_refl _) _).trans (belowK_b (w := w) (Nat.le_refl _) _ D _ _ (by have := BW.size; omega) hK' rfl rfl)⟩
            simp [results, Try.f4, go_sem, z0.cell]
          · exfalso
            apply hne
            obtain ⟨t, ht⟩ := hsp
            have e : (numsL s)[p.length]! = x := by
              rw [← ht, getElem!_pos _ _ (by simp)]
              simp
            exact take_at HL.out hlt e
  · skip
    have FN : Hid (fstN s = x0 ∧ fstB s = true) := ⟨hx0, fst_some h0⟩
    have hl0 : (0 : Int) < (s.length : Int) := by have := List.length_pos_iff.2 h0; omega
    clear hx0
    have C3 : Hid (Calls Try.prog 19 #[.slice aoa a.length capa] w2 fun e w' => e = .returned (.tuple #[.int .i64 x0, .bool true]) ∧ Below w2.heap.size w2 w') := by
      show Calls _ _ _ _ _
      have := first_any _ a w2 Ra2.out (by omega)
      rw [HS.out, FN.out.1, FN.out.2] at this
      exact this
    gi_wp2_with fail
    refine ⟨trivial, (callsIn_wide.2 C3.out).mono ?_⟩
    rintro e w3 ⟨rfl, b3⟩
    have Ra3 : Hid (Row encP 2 w3 _ a) := Ra2.out.below b3
    have Rs3 : Hid (Row encP 2 w3 _ s) := Rs2.out.below b3
    have X3 : Hid (Boxed w3 w.heap.size 4 (.bool false)) := (b3.block _ X2.out.lt).trans X2.out
    have B3 : Hid (Below w.heap.size w w3) := B2.out.trans (b3.mono B2.out.size)
    clear Ra2 Rs2 X2 B2 C3 b3
    obtain ⟨bs, offs, eaos, hbs, s1, _⟩ := row_first (Rs3.out) h0
    have eaos2 := eaos
    cases eaos2
    rw [FN.out.1] at s1
    have HS1 : Hid (bs < w3.heap.size ∧ w3.cell? ⟨bs, offs, none⟩ = some (.int .i64 x0)) := ⟨hbs, s1⟩
    clear hbs
    have C4 : Hid (Calls Try.prog 20 #[.slice aoa a.length capa, .int .i64 n] w3 fun e w' => e = .returned (.bool f) ∧ Below w3.heap.size w3 w') := has_is2 _ a n f w3 Ra3.out (by omega) HF.out
    gi_wp2_with fail
    refine ⟨trivial, (callsIn_wide.2 C4.out).mono ?_⟩
    rintro e w4 ⟨rfl, b4⟩
    have Ra4 : Hid (Row encP 2 w4 _ a) := Ra3.out.below b4
    have Rs4 : Hid (Row encP 2 w4 _ s) := Rs3.out.below b4
    have X4 : Hid (Boxed w4 w.heap.size 4 (.bool false)) := (b4.block _ X3.out.lt).trans X3.out
    have B4 : Hid (Below w.heap.size w w4) := B3.out.trans (b4.mono B3.out.size)
    clear Ra3 Rs3 X3 B3 C4 b4
    have C5 : Hid (Calls Try.prog 21 #[.slice aoa a.length capa, .int .i64 n] w4 fun e w' => e = .returned (.bool f) ∧ Below w4.heap.size w4 w') := rhas_is _ a n f w4 Ra4.out (by omega) HF.out
    gi_wp2_with fail
    refine ⟨trivial, (callsIn_wide.2 C5.out).mono ?_⟩
    rintro e w5 ⟨rfl, b5⟩
    have Ra5 : Hid (Row encP 2 w5 _ a) := Ra4.out.below b5
    have Rs5 : Hid (Row encP 2 w5 _ s) := Rs4.out.below b5
    have X5 : Hid (Boxed w5 w.heap.size 4 (.bool false)) := (b5.block _ X4.out.lt).trans X4.out
    have B5 : Hid (Below w.heap.size w w5) := B4.out.trans (b5.mono B4.out.size)
    clear Ra4 Rs4 X4 B4 C5 b5
    have C6 : Hid (Calls Try.prog 22 #[.slice aoa a.length capa] w5 fun e w' => e = .returned (.int .i64 cn) ∧ Below w5.heap.size w5 w') := by
      show Calls _ _ _ _ _
      have := count_any _ a w5 Ra5.out (by omega)
      rw [HS.out, HCN.out] at this
      exact this
    gi_wp2_with fail
    refine ⟨trivial, (callsIn_wide.2 C6.out).mono ?_⟩
    rintro e w6 ⟨rfl, b6⟩
    have Ra6 : Hid (Row encP 2 w6 _ a) := Ra5.out.below b6
    have Rs6 : Hid (Row encP 2 w6 _ s) := Rs5.out.below b6
    have X6 : Hid (Boxed w6 w.heap.size 4 (.bool false)) := (b6.block _ X5.out.lt).trans X5.out
    have B6 : Hid (Below w.heap.size w w6) := B5.out.trans (b6.mono B5.out.size)
    clear Ra5 Rs5 X5 B5 C6 b6
    have C7 : Hid (Calls Try.prog 23 #[.slice aoa a.length capa] w6 fun e w' => e = .returned (.int .i64 cn) ∧ Below w6.heap.size w6 w') := by
      show Calls _ _ _ _ _
      have := rcount_any _ a w6 Ra6.out (by omega)
      rw [HS.out, HCN.out] at this
      exact this
    gi_wp2_with fail
    refine ⟨trivial, (callsIn_wide.2 C7.out).mono ?_⟩
    rintro e w7 ⟨rfl, b7⟩
    have Ra7 : Hid (Row encP 2 w7 _ a) := Ra6.out.below b7
    have Rs7 : Hid (Row encP 2 w7 _ s) := Rs6.out.below b7
    have X7 : Hid (Boxed w7 w.heap.size 4 (.bool false)) := (b7.block _ X6.out.lt).trans X6.out
    have B7 : Hid (Below w.heap.size w w7) := B6.out.trans (b7.mono B6.out.size)
    clear Ra6 Rs6 X6 B6 C7 b7
    have hb7 : w.heap.size < w7.heap.size := X7.out.lt
    obtain ⟨L, hL⟩ : ∃ L, (numsL s).take most.toNat = L := ⟨_, rfl⟩
    have HL : Hid ((numsL s).take most.toNat = L) := hL
    clear hL
    have C8 : Hid (Calls Try.prog 24 #[.slice aoa a.length capa, .int .i64 most] w7 fun e w' => (∃ ao c, e = .returned (.slice ao L.length c) ∧ OwnI w7.heap.size w' (.slice ao L.length c) L) ∧ Below w7.heap.size w7 w') := by
      show Calls _ _ _ _ _
      have := list_any _ a most w7 Ra7.out (by omega)
      rw [HS.out, HL.out] at this
      exact this.mono fun e w' h => by
        obtain ⟨v', rfl, ho, hb⟩ := h
        obtain ⟨ao, c, rfl⟩ := ho.len
        exact ⟨⟨ao, c, rfl, ho⟩, hb⟩
    gi_wp2_with fail
    refine ⟨trivial, (callsIn_wide.2 C8.out).mono ?_⟩
    rintro e w8 ⟨⟨aol, cl, rfl, ol⟩, b8⟩
    have Ra8 : Hid (Row encP 2 w8 _ a) := Ra7.out.below b8
    have Rs8 : Hid (Row encP 2 w8 _ s) := Rs7.out.below b8
    have X8 : Hid (Boxed w8 w.heap.size 4 (.bool false)) := (b8.block _ X7.out.lt).trans X7.out
    have B8 : Hid (Below w.heap.size w w8) := B7.out.trans (b8.mono B7.out.size)
    clear Ra7 Rs7 X7 B7 C8 b8
    obtain ⟨w9, hw9⟩ : ∃ w9, w8.alloc (.cells #[.slice aol L.length cl] 36) = w9 := ⟨_, rfl⟩
    have b9 : Below w8.heap.size w8 w9 := by rw [← hw9]; exact (Below.refl _ _).alloc (Nat.le_refl _) _
    have Ra9 : Hid (Row encP 2 w9 (.slice aoa a.length capa) a) := Ra8.out.below b9
    have Rs9 : Hid (Row encP 2 w9 _ s) := Rs8.out.below b9
    have X9 : Hid (Boxed w9 w.heap.size 4 (.bool false)) := (b9.block _ X8.out.lt).trans X8.out
    have B9 : Hid (Below w.heap.size w w9) := B8.out.trans (b9.mono B8.out.size)
    have hb1 : w.heap.size + 1 ≤ w8.heap.size := X8.out.lt
    have OL : Hid (OwnI w7.heap.size w9 (.slice aol L.length cl) L) := by show OwnI _ _ _ _; rw [← hw9]; exact ol.alloc _
    have XL : Hid (Boxed w9 w8.heap.size 36 (.slice aol L.length cl)) := by show Boxed _ _ _ _; rw [← hw9]; exact Boxed.new _ _ _
    have hg0 : (Value.slice aol L.length cl).ownBlock ≠ some w.heap.size := fun e => own_ne ol (j := w.heap.size) hb7 e.symm
    clear b9 Ra8 Rs8 X8 B8 ol hb7
    generalize hb1e : w8.heap.size = b1 at *
    generalize w7.heap.size = base at *
    have cL := XL.out.cell
    have HW9 : Hid (w8.alloc (.cells #[.slice aol L.length cl] 36) = w9) := hw9
    gi_wp2
    clear hw9
    obtain ⟨_, _, es9, _, _, q3⟩ := id Rs9.out
    cases es9
    have H3 : Hid _ := q3
    clear q3
    have HG0 : Hid ((Value.slice aol L.length cl).ownBlock ≠ some w.heap.size) := hg0
    gi_loopw [12, 13] (fun s12 s13 wr => ∃ k i : Nat, s12 = .int .i64 k ∧ s13 = .int .i64 i ∧ i ≤ s.length ∧ Hid (k = min (numsL (s.take i)).length most.toNat) ∧ wr = w9) (fun _ s13 _ => s.length - (intOf s13).toNat)
    case atStart => exact ⟨0, 0, rfl, rfl, Nat.zero_le _, by simp [Hid, numsL], rfl⟩
    case round =>
      obtain ⟨k, i, rfl, rfl, hi, HKM, rfl⟩ := hrel
      by_cases hil : i < s.length
      · have hilz : (i : Int) < (s.length : Int) := by omega
        by_cases hkm : (k : Int) < most
        · obtain ⟨bq, offq, eq, hbq, x1, x2⟩ := row_at H3.out i hil (Below.refl _ wr)
          cases eq
          obtain ⟨P, hP⟩ : ∃ P, (numsL (s.take i)).length = P := ⟨_, rfl⟩
          have hkP : k = P := by have := HKM.out; rw [hP] at this; omega
          have NA : Hid (∀ j : Nat, (j : Int) < s[i]!.2 - s[i]!.1 + 1 → P + j < (numsL s).length ∧ (numsL s)[P + j]! = s[i]!.1 + (j : Int)) := fun j hj => by rw [← hP]; exact nums_at hil hj
          have NS : Hid ((numsL (s.take (i + 1))).length = P + (s[i]!.2 - s[i]!.1 + 1).toNat) := by rw [← hP]; exact nums_take_succ hil
          obtain ⟨y1, y2, y3⟩ := HC.out.1 s[i]! (bang_mem hil)
          generalize s[i]! = x at *
          subst hkP
          have HP : Hid ((numsL (s.take i)).length = k) := hP
          clear hP HKM
          gi_wp2
          gi_loopw [12, 14] (fun s12 s14 wr2 => ∃ (j kk : Nat) (m : Int), s12 = .int .i64 kk ∧ s14 = .int .i64 m ∧ Hid (kk = k + j) ∧ Hid (m = x.1 + (j : Int)) ∧ Hid (m ≤ x.2 + 1) ∧ Hid ((kk : Int) ≤ most) ∧ wr2 = wr) (fun _ s14 _ => (x.2 + 1 - intOf s14).toNat)
          case atStart => exact ⟨0, k, x.1, rfl, rfl, rfl, by simp [Hid], by show x.1 ≤ x.2 + 1; omega, by show (k : Int) ≤ most; omega, rfl⟩
          case round =>
            obtain ⟨j, kk, m, rfl, rfl, HKK, HM, HMX, HKM2, rfl⟩ := hrel
            have hv1 := HKK.out
            have hv2 := HM.out
            have hv3 := HMX.out
            have hv4 := HKM2.out
            by_cases h1 : m ≤ x.2
            · by_cases h2 : (kk : Int) < most
              · obtain ⟨n1, n2⟩ := NA.out j (by omega)
                have hkL : kk < L.length := take_lt HL.out (by rw [hv1]; exact n1) (by omega)
                have hLm : L[kk]! = m := take_at HL.out hkL (by rw [hv1, hv2]; exact n2)
                obtain ⟨g, cg, eg, cg2⟩ := OwnI.at OL.out kk hkL
                cases eg
                rw [hLm] at cg2
                have nge : ¬ (L.length : Int) ≤ (kk : Int) := nat_nge hkL
                have nlt : (kk : Int) < (L.length : Int) := Int.ofNat_lt.2 hkL
                have HE1 : Hid (wrap64 ((kk : Int) + 1) = kk + 1) := w64_nat h2 lm
                have e2 : wrap64 (m + 1) = m + 1 := w64_le h1 y3 (nat_ge hv2 y1)
                have r1 : Hid (kk + 1 = k + (j + 1)) := nat_s hv1
                have r2 : Hid (m + 1 = x.1 + ((j + 1 : Nat) : Int)) := int_s hv2
                have r3 : Hid (m + 1 ≤ x.2 + 1) := le_s h1
                have r4 : Hid (((kk + 1 : Nat) : Int) ≤ most) := nat_le_s h2
                clear hv1 hv2 hv3 hv4 n1 n2 hLm hkL
                try clear la
                try clear ia
                try clear im
                try clear ls
                try clear hi
                try clear hil
                try clear hkm
                try clear y1
                try clear y2
                try clear y3
                try clear hbq
                try clear hb1
                try clear hg0
                try clear hl0
                try clear hb1e
                try clear s1
                try clear h0
                gi_wp2
                go_roundw
                case rel => exact ⟨j + 1, kk + 1, m + 1, by first | go_num | (rw [HE1.out]; simp), by first | rfl | rw [e2], r1, r2, r3, r4, (by first | rfl | trivial)⟩
                case measure => simp only [intOf]; first | exact meas_s h1 | (rw [e2]; exact meas_s h1)
              · have r1 : Hid (kk = min (numsL (s.take (i + 1))).length most.toNat) := by
                  show _ = _
                  rw [NS.out]; omega
                clear hv1 hv2 hv3 hv4
                gi_wp2
                go_roundw
                case rel => exact ⟨kk, i + 1, rfl, by simp, by omega, r1, (by first | rfl | trivial)⟩
                case measure => simp [intOf]; omega
            · have r1 : Hid (kk = min (numsL (s.take (i + 1))).length most.toNat) := by
                show _ = _
                rw [NS.out]; omega
              clear hv1 hv2 hv3 hv4
              gi_wp2
              go_roundw
              case rel => exact ⟨kk, i + 1, rfl, by simp, by omega, r1, (by first | rfl | trivial)⟩
              case measure => simp [intOf]; omega
        · skip
          have HK : Hid (k = L.length) := by
            show _ = _
            have h1 := HKM.out
            have h2 := nums_take_le s i
            rw [← HL.out, List.length_take]
            omega
          obtain ⟨w10, hw10⟩ : ∃ w10, wr.alloc (.cells #[.int .i64 0] 3) = w10 := ⟨_, rfl⟩
          have b10 : Below wr.heap.size wr w10 := by rw [← hw10]; exact (Below.refl _ _).alloc (Nat.le_refl _) _
          have Ra10 : Hid (Row encP 2 w10 (.slice aoa a.length capa) a) := Ra9.out.below b10
          have X10 : Hid (Boxed w10 w.heap.size 4 (.bool false)) := (b10.block _ X9.out.lt).trans X9.out
          have XL10 : Hid (Boxed w10 b1 36 (.slice aol L.length cl)) := (b10.block _ XL.out.lt).trans XL.out
          have X2 : Hid (Boxed w10 wr.heap.size 3 (.int .i64 0)) := by show Boxed _ _ _ _; rw [← hw10]; exact Boxed.new _ _ _
          have B10 : Hid (Below w.heap.size w w10) := B9.out.trans (b10.mono B9.out.size)
          have OL10 : Hid (OwnI base w10 (.slice aol L.length cl) L) := ownsRow_below OL.out b10
          have HG : Hid ((Value.slice aol L.length cl).ownBlock ≠ some wr.heap.size) := ownsRow_other OL.out (Nat.le_refl _)
          have hb12 : b1 < wr.heap.size := XL.out.lt
          have ek : ((L.length : Int) == (k : Int)) = true := beq_iff_eq.2 (by rw [HK.out])
          have HW10 : Hid (wr.alloc (.cells #[.int .i64 0] 3) = w10) := hw10
          clear hw10
          have C11 : Hid (Calls Try.prog 25 #[.slice aoa a.length capa] w10 fun e w' => ∃ Bs sv, e = .returned (.func (.func 35) #[] #[.pointer (some ⟨Bs, 0, none⟩)]) ∧ w10.heap.size ≤ Bs ∧ Boxed w' Bs 22 sv ∧ OwnP w10.heap.size w' sv s ∧ Below w10.heap.size w10 w') := by
            show Calls _ _ _ _ _
            have := all_any _ a w10 Ra10.out (by omega)
            rw [HS.out] at this
            exact this
          clear b10 Ra9 X9 XL B9 OL cL
          gi_wp2_with fail
          rw [HW10.out]
          clear HW10 HW9
          generalize wr.heap.size = b2 at *
          refine ⟨trivial, (callsIn_wide.2 C11.out).mono ?_⟩
          rintro e w11 ⟨Bs, sv, rfl, hBs, hbx, ho, hb⟩
          gi_wp2
          have y0 : Boxed w11 w.heap.size 4 (.bool false) := (hb.block _ X10.out.lt).trans X10.out
          have y1 : Boxed w11 b1 36 (.slice aol L.length cl) := (hb.block _ XL10.out.lt).trans XL10.out
          have y2 : Boxed w11 b2 3 (.int .i64 0) := (hb.block _ X2.out.lt).trans X2.out
          have BW : Below w.heap.size w w11 := B10.out.trans (hb.mono B10.out.size)
          have OW : OwnI base w11 (.slice aol L.length cl) L := ownsRow_below OL10.out hb
          clear C11 Ra10 X10 XL10 X2 B10 OL10
          refine wpIn_rangeFunc_ownG rfl (by decide) (gf := 35) (lb := #[.pointer (some ⟨Bs, 0, none⟩)]) rfl trivial (enters_of Try.func35 (by kernel_rfl) rfl)
            (all_stops 5 Bs sv s HC.out (by omega) (by decide) w11 hbx _ ho) KpR.t (KpR.b (w := w11)) (Below.refl _ _) (fun _ => rfl)
            (fun pre W => (LHolds b1 base (.slice aol L.length cl) L W ∧ (Boxed W b2 3 (.int .i64 (pre.length : Int)) ∧ Boxed W w.heap.size 4 (.bool false) ∧ pre <+: L)) ∧ Below w.heap.size w W)
            (fun c pre W => (LHolds b1 base (.slice aol L.length cl) L W ∧ (∃ p x, pre = p ++ [x] ∧ p <+: L ∧ ((c = .exit 4 ∧ L.length ≤ p.length ∧ Boxed W b2 3 (.int .i64 (p.length : Int)) ∧ Boxed W w.heap.size 4 (.bool false)) ∨ (c = .ret ∧ p.length < L.length ∧ OffAt L p x)))) ∧ Below w.heap.size w W)
            (OwnFrom.and (OwnFrom.and (Own.from (lholds_own b1 base (.slice aol L.length cl) L) _) (Own.from (fun s A B row hs hg hr => ⟨boxed_own _ _ (fun _ : Unit => _) () A B row hs.1 hg hr, boxed_own _ _ (fun _ : Unit => _) () A B row hs.2.1 hg hr, hs.2.2⟩) _)) (ownFrom_below (Nat.le_refl _) BW.size))
            (fun c => OwnFrom.and (OwnFrom.and (Own.from (lholds_own b1 base (.slice aol L.length cl) L) _) (Own.from (fun s A B row hs hg hr => by
              obtain ⟨p, x, e, hp, h⟩ := hs
              refine ⟨p, x, e, hp, ?_⟩
              rcases h with ⟨h1, h2, h3, h4⟩ | h
              · exact Or.inl ⟨h1, h2, boxed_own _ _ (fun _ : Unit => _) () A B row h3 hg hr, boxed_own _ _ (fun _ : Unit => _) () A B row h4 hg hr⟩
              · exact Or.inr h) _)) (ownFrom_below (Nat.le_refl _) BW.size))
            ⟨⟨⟨y1, OW⟩, y2, y0, List.nil_prefix⟩, BW⟩ ?a1ca ?assignca ?bodyca ?doneca ?stopca
          case assignca =>
            intro l x W K hK
            gi_wp2
            exact hK
          case bodyca =>
            rintro l pre x W ⟨⟨⟨hv, hrow⟩, h2, h3, hpre⟩, hB⟩ hlt
            have c1 := hv.cell
            have c2 := h2.cell
            have f2 := h2.frozen
            have c3 := h3.cell
            have f3 := h3.frozen
            have hpl := hpre.length_le
            have lL : L.length ≤ 1000 := by rw [← HL.out, List.length_take]; omega
            by_cases hge : L.length ≤ pre.length
            · have hgez : (L.length : Int) ≤ (pre.length : Int) := by omega
              gi_wp2
              exact ⟨KeepsFrom.refl _ _, ⟨⟨hv, hrow⟩, pre, x, rfl, hpre, Or.inl ⟨rfl, hge, h2, h3⟩⟩, hB⟩
            · have hgez : ¬ (L.length : Int) ≤ (pre.length : Int) := by omega
              obtain ⟨g, cg, eg, cg2⟩ := OwnI.at hrow pre.length (by omega)
              cases eg
              have hpz : (pre.length : Int) < (L.length : Int) := by omega
              obtain ⟨y, hy⟩ : ∃ y, L[pre.length]! = y := ⟨_, rfl⟩
              rw [hy] at cg2
              have HY : Hid (L[pre.length]! = y) := hy
              have HPL : Hid (pre.length < L.length) := by show _ < _; omega
              clear hy
              have e1 : wrap64 ((pre.length : Int) + 1) = pre.length + 1 := w64 (by omega) (by omega)
              clear hge hpl lL
              by_cases hx : y = x
              · subst hx
                gi_wp2
                refine ⟨(KeepsOthers.setCell _ _ _).from _, KpR.setBox h2 (by decide) _, ⟨⟨hv.other (Nat.ne_of_lt hb12) _, ownsRow_setCell_other hrow (a := ⟨b2, 0, none⟩) HG.out _⟩, ?_, h3.other (by omega) _, ?_⟩, hB.setCell (p := ⟨b2, 0, none⟩) (by simp; omega) _⟩
                · have := h2.set (.int .i64 ((pre.length : Int) + 1))
                  simpa using this
                · exact pre_snoc hpre HPL.out HY.out
              · have hxb : (y != x) = true := bne_iff_ne.2 hx
                have HX : OffAt L pre x := by show _ ≠ _; rw [HY.out]; exact hx
                clear hx
                gi_wp2
                exact ⟨(KeepsOthers.setCell _ _ _).from _, ⟨⟨hv.other (by omega) _, ownsRow_setCell_other hrow (a := ⟨w.heap.size, 0, none⟩) HG0.out _⟩, pre, x, rfl, hpre, Or.inr ⟨rfl, HPL.out, HX⟩⟩, hB.setCell (p := ⟨w.heap.size, 0, none⟩) (Nat.le_refl _) _⟩
          case doneca =>
            rintro D ys W hD rfl ⟨⟨⟨hv, hrow⟩, h2, h3, hpre⟩, hB⟩ hK
            have c1 := hv.cell
            have c2 := h2.cell
            have c3 := h3.cell
            have f3 := h3.frozen
            have ei : (((numsL s).length : Int) == (k : Int)) = true := beq_iff_eq.2 (by
              have h1 := hpre.length_le
              have h4 : L.length ≤ (numsL s).length := by rw [← HL.out, List.length_take]; omega
              have := HK.out
              omega)
            skip
            gi_wp2
            have hK' := (KeepsOthers.setCell W ⟨w.heap.size, 0, none⟩ (.bool true)).same D _ hK rfl
            have z0 := (h3.set (.bool true)).kept (grownBy_putObj' _ D (.deferred none)) (by have := y0.lt; simp; omega)
            refine ⟨by simp, .inl ⟨_, _, rfl, run_takeDeferred hK', ?_⟩⟩
            refine ⟨.bool true, ?_, rfl, (hB.setCell (p := ⟨w.heap.size, 0, none⟩) (Nat.le_refl _) _).trans (belowK_b (w := w) (Nat.le_refl _) _ D _ _ (by have := BW.size; omega) hK' rfl rfl)⟩
            simp [results, Try.f4, go_sem, z0.cell]
          case stopca =>
            rintro D c pre W hD hsp ⟨⟨⟨hv, hrow⟩, p, x, rfl, hpre, hcase⟩, hB⟩ hK
            rcases hcase with ⟨rfl, hge, h2, h3⟩ | ⟨rfl, hlt, hne⟩
            · have c1 := hv.cell
              have c2 := h2.cell
              have c3 := h3.cell
              have f3 := h3.frozen
              have ei : ((p.length : Int) == (k : Int)) = true := beq_iff_eq.2 (by
                have h1 := hpre.length_le
                have := HK.out
                omega)
              gi_wp2
              have hK' := (KeepsOthers.setCell W ⟨w.heap.size, 0, none⟩ (.bool true)).same D _ hK rfl
              have z0 := (h3.set (.bool true)).kept (grownBy_putObj' _ D (.deferred none)) (by have := y0.lt; simp; omega)
              refine ⟨by simp, .inl ⟨_, _, rfl, run_takeDeferred hK', ?_⟩⟩
              refine ⟨.bool true, ?_, rfl, (hB.setCell (p := ⟨w.heap.size, 0, none⟩) (Nat.le_refl _) _).trans (belowK_b (w := w) (Nat.le_refl _) _ D _ _ (by have := BW.size; omega) hK' rfl rfl)⟩
              simp [results, Try.f4, go_sem, z0.cell]
            · exfalso
              apply hne
              obtain ⟨t, ht⟩ := hsp
              have e : (numsL s)[p.length]! = x := by
                rw [← ht, getElem!_pos _ _ (by simp)]
                simp
              exact take_at HL.out hlt e
      · have hilz : ¬ (i : Int) < (s.length : Int) := by omega
        have HK : Hid (k = L.length) := by
          show _ = _
          have h1 := HKM.out
          rw [List.take_of_length_le (by omega)] at h1
          rw [← HL.out, List.length_take]
          omega
        obtain ⟨w10, hw10⟩ : ∃ w10, wr.alloc (.cells #[.int .i64 0] 3) = w10 := ⟨_, rfl⟩
        have b10 : Below wr.heap.size wr w10 := by rw [← hw10]; exact (Below.refl _ _).alloc (Nat.le_refl _) _
        have Ra10 : Hid (Row encP 2 w10 (.slice aoa a.length capa) a) := Ra9.out.below b10
        have X10 : Hid (Boxed w10 w.heap.size 4 (.bool false)) := (b10.block _ X9.out.lt).trans X9.out
        have XL10 : Hid (Boxed w10 b1 36 (.slice aol L.length cl)) := (b10.block _ XL.out.lt).trans XL.out
        have X2 : Hid (Boxed w10 wr.heap.size 3 (.int .i64 0)) := by show Boxed _ _ _ _; rw [← hw10]; exact Boxed.new _ _ _
        have B10 : Hid (Below w.heap.size w w10) := B9.out.trans (b10.mono B9.out.size)
        have OL10 : Hid (OwnI base w10 (.slice aol L.length cl) L) := ownsRow_below OL.out b10
        have HG : Hid ((Value.slice aol L.length cl).ownBlock ≠ some wr.heap.size) := ownsRow_other OL.out (Nat.le_refl _)
        have hb12 : b1 < wr.heap.size := XL.out.lt
        have ek : ((L.length : Int) == (k : Int)) = true := beq_iff_eq.2 (by rw [HK.out])
        have HW10 : Hid (wr.alloc (.cells #[.int .i64 0] 3) = w10) := hw10
        clear hw10
        have C11 : Hid (Calls Try.prog 25 #[.slice aoa a.length capa] w10 fun e w' => ∃ Bs sv, e = .returned (.func (.func 35) #[] #[.pointer (some ⟨Bs, 0, none⟩)]) ∧ w10.heap.size ≤ Bs ∧ Boxed w' Bs 22 sv ∧ OwnP w10.heap.size w' sv s ∧ Below w10.heap.size w10 w') := by
          show Calls _ _ _ _ _
          have := all_any _ a w10 Ra10.out (by omega)
          rw [HS.out] at this
          exact this
        clear b10 Ra9 X9 XL B9 OL cL
        gi_wp2_with fail
        rw [HW10.out]
        clear HW10 HW9
        generalize wr.heap.size = b2 at *
        refine ⟨trivial, (callsIn_wide.2 C11.out).mono ?_⟩
        rintro e w11 ⟨Bs, sv, rfl, hBs, hbx, ho, hb⟩
        gi_wp2
        have y0 : Boxed w11 w.heap.size 4 (.bool false) := (hb.block _ X10.out.lt).trans X10.out
        have y1 : Boxed w11 b1 36 (.slice aol L.length cl) := (hb.block _ XL10.out.lt).trans XL10.out
        have y2 : Boxed w11 b2 3 (.int .i64 0) := (hb.block _ X2.out.lt).trans X2.out
        have BW : Below w.heap.size w w11 := B10.out.trans (hb.mono B10.out.size)
        have OW : OwnI base w11 (.slice aol L.length cl) L := ownsRow_below OL10.out hb
        clear C11 Ra10 X10 XL10 X2 B10 OL10
        refine wpIn_rangeFunc_ownG rfl (by decide) (gf := 35) (lb := #[.pointer (some ⟨Bs, 0, none⟩)]) rfl trivial (enters_of Try.func35 (by kernel_rfl) rfl)
          (all_stops 5 Bs sv s HC.out (by omega) (by decide) w11 hbx _ ho) KpR.t (KpR.b (w := w11)) (Below.refl _ _) (fun _ => rfl)
          (fun pre W => (LHolds b1 base (.slice aol L.length cl) L W ∧ (Boxed W b2 3 (.int .i64 (pre.length : Int)) ∧ Boxed W w.heap.size 4 (.bool false) ∧ pre <+: L)) ∧ Below w.heap.size w W)
          (fun c pre W => (LHolds b1 base (.slice aol L.length cl) L W ∧ (∃ p x, pre = p ++ [x] ∧ p <+: L ∧ ((c = .exit 4 ∧ L.length ≤ p.length ∧ Boxed W b2 3 (.int .i64 (p.length : Int)) ∧ Boxed W w.heap.size 4 (.bool false)) ∨ (c = .ret ∧ p.length < L.length ∧ OffAt L p x)))) ∧ Below w.heap.size w W)
          (OwnFrom.and (OwnFrom.and (Own.from (lholds_own b1 base (.slice aol L.length cl) L) _) (Own.from (fun s A B row hs hg hr => ⟨boxed_own _ _ (fun _ : Unit => _) () A B row hs.1 hg hr, boxed_own _ _ (fun _ : Unit => _) () A B row hs.2.1 hg hr, hs.2.2⟩) _)) (ownFrom_below (Nat.le_refl _) BW.size))
          (fun c => OwnFrom.and (OwnFrom.and (Own.from (lholds_own b1 base (.slice aol L.length cl) L) _) (Own.from (fun s A B row hs hg hr => by
            obtain ⟨p, x, e, hp, h⟩ := hs
            refine ⟨p, x, e, hp, ?_⟩
            rcases h with ⟨h1, h2, h3, h4⟩ | h
            · exact Or.inl ⟨h1, h2, boxed_own _ _ (fun _ : Unit => _) () A B row h3 hg hr, boxed_own _ _ (fun _ : Unit => _) () A B row h4 hg hr⟩
            · exact Or.inr h) _)) (ownFrom_below (Nat.le_refl _) BW.size))
          ⟨⟨⟨y1, OW⟩, y2, y0, List.nil_prefix⟩, BW⟩ ?a1cb ?assigncb ?bodycb ?donecb ?stopcb
        case assigncb =>
          intro l x W K hK
          gi_wp2
          exact hK
        case bodycb =>
          rintro l pre x W ⟨⟨⟨hv, hrow⟩, h2, h3, hpre⟩, hB⟩ hlt
          have c1 := hv.cell
          have c2 := h2.cell
          have f2 := h2.frozen
          have c3 := h3.cell
          have f3 := h3.frozen
          have hpl := hpre.length_le
          have lL : L.length ≤ 1000 := by rw [← HL.out, List.length_take]; omega
          by_cases hge : L.length ≤ pre.length
          · have hgez : (L.length : Int) ≤ (pre.length : Int) := by omega
            gi_wp2
            exact ⟨KeepsFrom.refl _ _, ⟨⟨hv, hrow⟩, pre, x, rfl, hpre, Or.inl ⟨rfl, hge, h2, h3⟩⟩, hB⟩
          · have hgez : ¬ (L.length : Int) ≤ (pre.length : Int) := by omega
            obtain ⟨g, cg, eg, cg2⟩ := OwnI.at hrow pre.length (by omega)
            cases eg
            have hpz : (pre.length : Int) < (L.length : Int) := by omega
            obtain ⟨y, hy⟩ : ∃ y, L[pre.length]! = y := ⟨_, rfl⟩
            rw [hy] at cg2
            have HY : Hid (L[pre.length]! = y) := hy
            have HPL : Hid (pre.length < L.length) := by show _ < _; omega
            clear hy
            have e1 : wrap64 ((pre.length : Int) + 1) = pre.length + 1 := w64 (by omega) (by omega)
            clear hge hpl lL
            by_cases hx : y = x
            · subst hx
              gi_wp2
              refine ⟨(KeepsOthers.setCell _ _ _).from _, KpR.setBox h2 (by decide) _, ⟨⟨hv.other (Nat.ne_of_lt hb12) _, ownsRow_setCell_other hrow (a := ⟨b2, 0, none⟩) HG.out _⟩, ?_, h3.other (by omega) _, ?_⟩, hB.setCell (p := ⟨b2, 0, none⟩) (by simp; omega) _⟩
              · have := h2.set (.int .i64 ((pre.length : Int) + 1))
                simpa using this
              · exact pre_snoc hpre HPL.out HY.out
            · have hxb : (y != x) = true := bne_iff_ne.2 hx
              have HX : OffAt L pre x := by show _ ≠ _; rw [HY.out]; exact hx
              clear hx
              gi_wp2
              exact ⟨(KeepsOthers.setCell _ _ _).from _, ⟨⟨hv.other (by omega) _, ownsRow_setCell_other hrow (a := ⟨w.heap.size, 0, none⟩) HG0.out _⟩, pre, x, rfl, hpre, Or.inr ⟨rfl, HPL.out, HX⟩⟩, hB.setCell (p := ⟨w.heap.size, 0, none⟩) (Nat.le_refl _) _⟩
        case donecb =>
          rintro D ys W hD rfl ⟨⟨⟨hv, hrow⟩, h2, h3, hpre⟩, hB⟩ hK
          have c1 := hv.cell
          have c2 := h2.cell
          have c3 := h3.cell
          have f3 := h3.frozen
          have ei : (((numsL s).length : Int) == (k : Int)) = true := beq_iff_eq.2 (by
            have h1 := hpre.length_le
            have h4 : L.length ≤ (numsL s).length := by rw [← HL.out, List.length_take]; omega
            have := HK.out
            omega)
          skip
          gi_wp2
          have hK' := (KeepsOthers.setCell W ⟨w.heap.size, 0, none⟩ (.bool true)).same D _ hK rfl
          have z0 := (h3.set (.bool true)).kept (grownBy_putObj' _ D (.deferred none)) (by have := y0.lt; simp; omega)
          refine ⟨by simp, .inl ⟨_, _, rfl, run_takeDeferred hK', ?_⟩⟩
          refine ⟨.bool true, ?_, rfl, (hB.setCell (p := ⟨w.heap.size, 0, none⟩) (Nat.le_refl _) _).trans (belowK_b (w := w) (Nat.le_refl _) _ D _ _ (by have := BW.size; omega) hK' rfl rfl)⟩
          simp [results, Try.f4, go_sem, z0.cell]
        case stopcb =>
          rintro D c pre W hD hsp ⟨⟨⟨hv, hrow⟩, p, x, rfl, hpre, hcase⟩, hB⟩ hK
          rcases hcase with ⟨rfl, hge, h2, h3⟩ | ⟨rfl, hlt, hne⟩
          · have c1 := hv.cell
            have c2 := h2.cell
            have c3 := h3.cell
            have f3 := h3.frozen
            have ei : ((p.length : Int) == (k : Int)) = true := beq_iff_eq.2 (by
              have h1 := hpre.length_le
              have := HK.out
              omega)
            gi_wp2
            have hK' := (KeepsOthers.setCell W ⟨w.heap.size, 0, none⟩ (.bool true)).same D _ hK rfl
            have z0 := (h3.set (.bool true)).kept (grownBy_putObj' _ D (.deferred none)) (by have := y0.lt; simp; omega)
            refine ⟨by simp, .inl ⟨_, _, rfl, run_takeDeferred hK', ?_⟩⟩
            refine ⟨.bool true, ?_, rfl, (hB.setCell (p := ⟨w.heap.size, 0, none⟩) (Nat.le_refl _) _).trans (belowK_b (w := w) (Nat.le_refl _) _ D _ _ (by have := BW.size; omega) hK' rfl rfl)⟩
            simp [results, Try.f4, go_sem, z0.cell]
          · exfalso
            apply hne
            obtain ⟨t, ht⟩ := hsp
            have e : (numsL s)[p.length]! = x := by
              rw [← ht, getElem!_pos _ _ (by simp)]
              simp
            exact take_at HL.out hlt e

theorem ask (va : Value) (a : List Pr) (n most : Int) (w : World) (ha : Row encP 2 w va a) (_bn : -9223372036854775808 ≤ n ∧ n ≤ 9223372036854775807) (_bm : -9223372036854775808 ≤ most ∧ most ≤ 9223372036854775807) : Calls Try.prog 4 #[va, .int .i64 n, .int .i64 most] w fun e w' => e = .returned (.bool true) ∧ Below w.heap.size w w' := by
  by_cases la : a.length ≤ 40
  · by_cases lm : most ≤ 1000
    · exact ask.short va a n most w ha la lm
    · exact ask.long_m va a n most w ha la (by omega)
  · exact ask.long_a va a n most w ha (by omega)

end Go.Proofs.Ytoigljefajbofaa
