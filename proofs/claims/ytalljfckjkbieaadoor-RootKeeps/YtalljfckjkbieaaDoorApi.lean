/-
  Package disk's calls, each by what it answers and what the disk is then: said of a disk and the set of blocks that it lies in.
-/
import Derived.Test.YtalljfckjkbieaaDoorRead
import Derived.Test.YtalljfckjkbieaaDoorWrite
import Derived.Test.YtalljfckjkbieaaDoorCrash
import Derived.Test.YtalljfckjkbieaaDoorNew
namespace Go.Proofs.YtalljfckjkbieaaDoor
open Go.RowKit
set_option linter.unusedVariables false

/-- Behind a call the disk is d' in blocks that were its own, or are new; no other block has turned. -/
def Goes (X : Nat → Prop) (w w' : World) (b : Nat) (d' : Dk) : Prop := ∃ X', Mine X' w' b d' ∧ Turn X w w' ∧ ∀ k, X' k → X k ∨ w.heap.size ≤ k

section
variable {X : Nat → Prop} {w w' : World} {b m g : Nat} {pv pv' : Value} {br : Bool} {lf : Int} {d d' : Dk}

theorem goes_of (hl : ∀ k, X k → k < w.heap.size) (hM : MemD w' b m g pv' d') (xb : X b) (xm : X m) (xg : X g) (hp : ∀ k, pv'.ownBlock = some k → X k ∨ w.heap.size ≤ k) (ht : Turn X w w') : Goes X w w' b d' := by
  obtain ⟨br, lf, h⟩ := hM
  refine ⟨fun k => X k ∨ (w.heap.size ≤ k ∧ k < w'.heap.size), ⟨⟨m, g, pv', br, lf, h, .inl xb, .inl xm, .inl xg, fun k hk => (hp k hk).elim .inl (fun h1 => .inr ⟨h1, (h.pk hk).1⟩)⟩, fun k hk => ?_⟩, ht, fun k hk => hk.elim .inl (fun h => .inr h.1)⟩
  rcases hk with h1 | h1
  · exact Nat.lt_of_lt_of_le (hl k h1) ht.size
  · exact h1.2
theorem Goes.same (h : Mine X w b d) : Goes X w w b d := ⟨X, h, Turn.refl _ _, fun _ hk => .inl hk⟩
theorem Turn.sub {Y : Nat → Prop} (t : Turn Y w w') (h : ∀ k, Y k → X k) : Turn X w w' := ⟨t.os, t.tape, t.output, t.size, fun k hk hx => t.block k hk (fun hy => hx (h k hy))⟩

theorem down_c (h : Mine X w b d) : Calls Tryd.prog 61 #[ptr b] w fun e w' => e = .returned (.bool d.down) ∧ w = w' := by
  obtain ⟨⟨m, g, pv, br, lf, hM, _⟩, _⟩ := h; exact down_m hM
theorem sectors_c (h : Mine X w b d) : Calls Tryd.prog 67 #[ptr b] w fun e w' => e = .returned (.int .i64 d.sure.length) ∧ w = w' := by
  obtain ⟨⟨m, g, pv, br, lf, hM, _⟩, _⟩ := h; exact sectors_m hM
theorem read_c (h : Mine X w b d) (i : Int) : Calls Tryd.prog 52 #[ptr b, .int .i64 i] w fun e w' => e = .returned (.tuple #[.string (d.get i).1.1, .int .i64 (d.get i).1.2]) ∧ Goes X w w' b (d.get i).2 := by
  obtain ⟨⟨m, g, pv, br, lf, hM, xb, xm, xg, xp⟩, hl⟩ := h
  refine (read_m hM i).mono ?_
  rintro e w' ⟨he, ht, hm⟩
  exact ⟨he, goes_of hl hm xb xm xg (fun k hk => .inl (xp k hk)) (ht.sub (fun k hk => by subst hk; exact xb))⟩

theorem write_c (h : Mine X w b d) (i : Int) (s : ByteArray) (hs : s.size ≤ maxLen) (hp : d.pend.length < 100000) : Calls Tryd.prog 50 #[ptr b, .int .i64 i, .string s] w fun e w' => e = .returned (.int .i64 (d.put i s).1) ∧ Goes X w w' b (d.put i s).2 := by
  have h0 := h
  obtain ⟨⟨m, g, pv, br, lf, hM, xb, xm, xg, xp⟩, hl⟩ := h
  by_cases hd : d.down = true
  · refine (write_no hM i s (.inl hd) hs).mono ?_
    rintro e w' ⟨he, rfl, hq⟩
    exact ⟨he, by rw [hq]; exact Goes.same h0⟩
  · by_cases hi : d.has i = true
    · by_cases h256 : s.size = 256
      · obtain ⟨h1, h2⟩ := of_decide_eq_true hi
        obtain ⟨n, rfl⟩ : ∃ n : Nat, i = n := ⟨i.toNat, by omega⟩
        refine (write_ok hM n (by omega) s h256 (by simpa using hd) hp).mono ?_
        rintro e w' ⟨he, pv', ht, hpv, hm⟩
        exact ⟨he, goes_of hl hm xb xm xg (fun k hk => (hpv k hk).imp (xp k) id) (ht.sub (fun k hk => by rcases hk with rfl | rfl | hk; exact xb; exact xm; exact xp k hk))⟩
      · refine (write_no hM i s (.inr (.inr h256)) hs).mono ?_
        rintro e w' ⟨he, rfl, hq⟩
        exact ⟨he, by rw [hq]; exact Goes.same h0⟩
    · refine (write_no hM i s (.inr (.inl (by simpa using hi))) hs).mono ?_
      rintro e w' ⟨he, rfl, hq⟩
      exact ⟨he, by rw [hq]; exact Goes.same h0⟩

theorem sync_c (h : Mine X w b d) (hp : d.pend.length < 100000) : Calls Tryd.prog 51 #[ptr b] w fun e w' => e = .returned (.int .i64 d.sync.1) ∧ Goes X w w' b d.sync.2 := by
  have h0 := h
  obtain ⟨⟨m, g, pv, br, lf, hM, xb, xm, xg, xp⟩, hl⟩ := h
  by_cases hd : d.down = true
  · have e1 : d.sync = (4, d) := by unfold Dk.sync; rw [if_pos hd]
    rw [e1]
    refine (sync_no hM hd).mono ?_
    rintro e w' ⟨he, rfl⟩
    exact ⟨he, Goes.same h0⟩
  · have e1 : d.sync.1 = 0 := by unfold Dk.sync; rw [if_neg hd]
    rw [e1]
    refine (sync_ok hM (by simpa using hd) hp).mono ?_
    rintro e w' ⟨he, ht, hm⟩
    exact ⟨he, goes_of hl hm xb xm xg (fun k hk => by simp [Value.ownBlock] at hk) (ht.sub (fun k hk => by rcases hk with rfl | rfl | rfl; exact xb; exact xm; exact xg))⟩

theorem break_c (h : Mine X w b d) (n : Int) (hn : n ≤ 9223372036854775807) : Calls Tryd.prog 20 #[ptr b, .int .i64 n] w fun e w' => e = .returned (.tuple #[]) ∧ Goes X w w' b (d.stop n) := by
  obtain ⟨⟨m, g, pv, br, lf, hM, xb, xm, xg, xp⟩, hl⟩ := h
  refine (break_m hM n hn).mono ?_
  rintro e w' ⟨he, ho, lf', hm⟩
  exact ⟨he, goes_of hl ⟨_, lf', hm⟩ xb xm xg (fun k hk => .inl (xp k hk)) (ho.turn xb)⟩

theorem crash_c (h : Mine X w b d) (kv : Value) (keep : List Int) (hkv : IntRow w kv keep) (torn cut : Int) (hp : d.pend.length < 100000) (hk : keep.length < 100000) : Calls Tryd.prog 21 #[ptr b, kv, .int .i64 torn, .int .i64 cut] w fun e w' => e = .returned (.tuple #[]) ∧ Goes X w w' b (d.crash keep torn cut) := by
  obtain ⟨⟨m, g, pv, br, lf, hM, xb, xm, xg, xp⟩, hl⟩ := h
  refine (crash_m hM kv keep hkv torn cut hp hk).mono ?_
  rintro e w' ⟨he, ht, hm⟩
  exact ⟨he, goes_of hl hm xb xm xg (fun k hk => by simp [Value.ownBlock] at hk) (ht.sub (fun k hk => by rcases hk with rfl | rfl | rfl; exact xb; exact xm; exact xg))⟩

/-- One disk all of whose blocks are newer than B; nothing older has turned since w0. -/
def One (B : Nat) (w0 w : World) (b : Nat) (d : Dk) : Prop := B ≤ w.heap.size ∧ Below B w0 w ∧ ∃ X, Mine X w b d ∧ ∀ k, X k → B ≤ k
theorem One.goes {B : Nat} {w0 : World} (hB : B ≤ w.heap.size) (hb : Below B w0 w) (hX : ∀ k, X k → B ≤ k) (hg : Goes X w w' b d') : One B w0 w' b d' := by
  obtain ⟨X', hm, ht, hx⟩ := hg
  exact ⟨Nat.le_trans hB ht.size, ht.below hb hB hX, X', hm, fun k hk => (hx k hk).elim (hX k) (fun h => by omega)⟩
theorem One.ok {B : Nat} {w0 : World} (h : One B w0 w b d) : d.Ok := by
  obtain ⟨_, _, X, ⟨⟨m, g, pv, br, lf, hM, _⟩, _⟩, _⟩ := h; exact hM.ok

end
end Go.Proofs.YtalljfckjkbieaaDoor
