/-
  The reference's calls, said of things that lie apart.
-/
import Derived.Test.YtkbakmgjplhjiaaDoorRefPut
import Derived.Test.YtkbakmgjplhjiaaDoorRefCrash
namespace Go.Proofs.YtkbakmgjplhjiaaDoor
open Go.RowKit
set_option linter.unusedVariables false
section
variable {B : Nat} {w0 w w' : World} {b : Nat} {d d' : Dk} {l : List Res}

theorem Calls.withRes {P : Program} {f : Nat} {args : Array Value} {v : Value} {a a' : Res} (h : Sep B w0 w (a :: l)) (g' : Good a') (hQ : ∀ X, a w X → (∀ k, X k → B ≤ k) → Calls P f args w (fun e w' => e = .returned v ∧ ∃ X', a' w' X' ∧ Turn X w w' ∧ ∀ k, X' k → X k ∨ w.heap.size ≤ k)) : Calls P f args w fun e w' => e = .returned v ∧ Sep B w0 w' (a' :: l) := by
  obtain ⟨hB, hb, Y, ⟨ga, X, Z, ha, hl, hd, hy⟩, hY⟩ := h
  refine (hQ X ha (fun k hk => hY k ((hy k).2 (.inl hk)))).mono ?_
  rintro e w' ⟨he, X', hm, ht, hx⟩
  refine ⟨he, Nat.le_trans hB ht.size, ht.below hb hB (fun k hk => hY k ((hy k).2 (.inl hk))), fun k => X' k ∨ Z k, ⟨g', X', Z, hm, hl.kept ht.size (fun k hk => ht.block k (hl.lt k hk) (fun hx => hd k hx hk)), fun k hk hz => ?_, fun k => Iff.rfl⟩, fun k hk => ?_⟩
  · rcases hx k hk with h1 | h1
    · exact hd k h1 hz
    · have := hl.lt k hz; omega
  · rcases hk with h1 | h1
    · rcases hx k h1 with h2 | h2
      · exact hY k ((hy k).2 (.inl h2))
      · omega
    · exact hY k ((hy k).2 (.inr h1))

theorem new_rs (n : Int) (h : Sep B w0 w l) : Calls Tryd.prog 10 #[.int .i64 n] w fun e w' => ∃ b, e = .returned (ptr b) ∧ Sep B w0 w' (RefD b (Dk.new n) :: l) := by
  refine (new_r n w).mono ?_
  rintro e w' ⟨he, hbl, hm⟩
  exact ⟨_, he, h.add hbl (good_ref _ _) hm (fun k hk => hk.1)⟩

theorem ref_of {X : Nat → Prop} {sv wv : Value} (hl : ∀ k, X k → k < w.heap.size) (xb : X b) (xs : ∀ k, sv.ownBlock = some k → X k) (hM : RMem w' b sv wv d') (hw : ∀ k, wv.ownBlock = some k → X k ∨ w.heap.size ≤ k) (ht : Turn X w w') :
    ∃ X', RefD b d' w' X' ∧ Turn X w w' ∧ ∀ k, X' k → X k ∨ w.heap.size ≤ k :=
  ⟨fun k => X k ∨ (w.heap.size ≤ k ∧ k < w'.heap.size), ⟨⟨sv, wv, hM, .inl xb, fun k hk => .inl (xs k hk), fun k hk => (hw k hk).elim .inl (fun h => .inr ⟨h, (hM.wt.lt k hk).2⟩)⟩, fun k hk => hk.elim (fun h => Nat.lt_of_lt_of_le (hl k h) ht.size) (fun h => h.2)⟩, ht, fun k hk => hk.elim .inl (fun h => .inr h.1)⟩

theorem read_rs (h : Sep B w0 w (RefD b d :: l)) (i : Int) (hp : d.pend.length < 100000) : Calls Tryd.prog 35 #[ptr b, .int .i64 i] w fun e w' => e = .returned (.tuple #[.string (d.get i).1.1, .int .i64 (d.get i).1.2]) ∧ Sep B w0 w' (RefD b (d.get i).2 :: l) :=
  Calls.withRes h (good_ref _ _) fun X ha _ => by
    obtain ⟨⟨sv, wv, hM, xb, xs, xw⟩, hl⟩ := ha
    refine (read_r hM i hp).mono ?_
    rintro e w' ⟨he, ho, hm⟩
    exact ⟨he, ref_of hl xb xs hm (fun k hk => .inl (xw k hk)) (ho.turn xb)⟩
theorem put_rs (h : Sep B w0 w (RefD b d :: l)) (i : Int) (s : ByteArray) (hs : s.size ≤ maxLen) (hp : d.pend.length < 100000) : Calls Tryd.prog 27 #[ptr b, .int .i64 i, .string s] w fun e w' => e = .returned (.int .i64 (d.put i s).1) ∧ Sep B w0 w' (RefD b (d.put i s).2 :: l) :=
  Calls.withRes h (good_ref _ _) fun X ha _ => by
    have ha0 := ha
    obtain ⟨⟨sv, wv, hM, xb, xs, xw⟩, hl⟩ := ha
    by_cases hno : d.down = true ∨ d.has i = false ∨ s.size ≠ 256
    · refine (put_no_r hM i s hno hs).mono ?_
      rintro e w' ⟨he, rfl, hq⟩
      exact ⟨he, by rw [hq]; exact ⟨X, ha0, Turn.refl _ _, fun k hk => .inl hk⟩⟩
    · have h1 : d.down = false := by
        cases hd : d.down
        · rfl
        · exact absurd (.inl hd) hno
      have h2 : d.has i = true := by
        cases hd : d.has i
        · exact absurd (.inr (.inl hd)) hno
        · rfl
      have h3 : s.size = 256 := Classical.byContradiction fun e => hno (.inr (.inr e))
      obtain ⟨p1, p2⟩ := of_decide_eq_true h2
      obtain ⟨n, rfl⟩ : ∃ n : Nat, i = n := ⟨i.toNat, by omega⟩
      refine (put_ok_r hM n (by omega) s h3 h1 hp).mono ?_
      rintro e w' ⟨he, ht, wv', hm, hw⟩
      exact ⟨he, ref_of hl xb xs hm (fun k hk => (hw k hk).imp (xw k) id) (ht.sub (fun k hk => by rcases hk with rfl | hk; exact xb; exact xw k hk))⟩
theorem sync_rs (h : Sep B w0 w (RefD b d :: l)) (hp : d.pend.length < 100000) : Calls Tryd.prog 16 #[ptr b] w fun e w' => e = .returned (.int .i64 d.sync.1) ∧ Sep B w0 w' (RefD b d.sync.2 :: l) :=
  Calls.withRes h (good_ref _ _) fun X ha _ => by
    have ha0 := ha
    obtain ⟨⟨sv, wv, hM, xb, xs, xw⟩, hl⟩ := ha
    by_cases hd : d.down = true
    · rw [Dk.sync_down hd]
      refine (sync_no_r hM hd).mono ?_
      rintro e w' ⟨he, rfl⟩
      exact ⟨he, X, ha0, Turn.refl _ _, fun k hk => .inl hk⟩
    · have hf : d.down = false := by simpa using hd
      rw [show d.sync.1 = 0 by rw [Dk.sync_ok hf]]
      refine (sync_r hM hf hp).mono ?_
      rintro e w' ⟨he, ht, hm⟩
      exact ⟨he, ref_of hl xb xs hm (fun k hk => by simp [Value.ownBlock] at hk) (ht.sub (fun k hk => by rcases hk with rfl | hk; exact xb; exact xs k hk))⟩
theorem stop_rs (h : Sep B w0 w (RefD b d :: l)) (n : Int) (hn : n ≤ 9223372036854775807) : Calls Tryd.prog 23 #[ptr b, .int .i64 n] w fun e w' => e = .returned (.tuple #[]) ∧ Sep B w0 w' (RefD b (d.stop n) :: l) :=
  Calls.withRes h (good_ref _ _) fun X ha _ => by
    obtain ⟨⟨sv, wv, hM, xb, xs, xw⟩, hl⟩ := ha
    refine (stop_r hM n hn).mono ?_
    rintro e w' ⟨he, ho, hm⟩
    exact ⟨he, ref_of hl xb xs hm (fun k hk => .inl (xw k hk)) (ho.turn xb)⟩
theorem crash_rs (h : Sep B w0 w (RefD b d :: l)) (kv : Value) (keep : List Int) (hkv : IntRow w kv keep) (torn cut : Int) (hp : d.pend.length < 100000) (hk : keep.length < 100000) (hB : keep ≠ [] → ∀ r o n c, kv = .slice (some ⟨r, o, none⟩) n c → r < B) : Calls Tryd.prog 25 #[ptr b, kv, .int .i64 torn, .int .i64 cut] w fun e w' => e = .returned (.tuple #[]) ∧ Sep B w0 w' (RefD b (d.crash keep torn cut) :: l) :=
  Calls.withRes h (good_ref _ _) fun X ha hX => by
    obtain ⟨⟨sv, wv, hM, xb, xs, xw⟩, hl⟩ := ha
    refine (crash_r hM kv keep hkv torn cut hp hk (fun hne r o n c e => ?_)).mono ?_
    · have := hB hne r o n c e
      exact ⟨fun e2 => by have := hX b xb; omega, fun e2 => by have := hX r (xs r e2); omega⟩
    · rintro e w' ⟨he, ht, hm⟩
      exact ⟨he, ref_of hl xb xs hm (fun k hk => by simp [Value.ownBlock] at hk) (ht.sub (fun k hk => by rcases hk with rfl | hk; exact xb; exact xs k hk))⟩
/-- What the statement reads of the reference's disk by itself. -/
theorem Sep.ref (h : Sep B w0 w (RefD b d :: l)) : ∃ sv wv, RMem w b sv wv d := by
  obtain ⟨_, _, Y, ⟨_, X, _, ⟨⟨sv, wv, hM, _⟩, _⟩, _⟩, _⟩ := h; exact ⟨sv, wv, hM⟩

end
end Go.Proofs.YtkbakmgjplhjiaaDoor
