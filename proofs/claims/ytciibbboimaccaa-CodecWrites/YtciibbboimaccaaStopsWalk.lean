/-
  The walk of the law CodecStops: behind an error nothing is read any more.
-/
import Derived.Test.YtciibbboimaccaaWorks
import Derived.OpenShut
namespace Go.Proofs.Ytciibbboimaccaa
open Go.RowKit

/-- A slice of integers that came in: nil, or a row of cells. -/
def IsRow (k : IntKind) (w : World) (a : Option Addr) (len cap : Nat) (zs : List Int) : Prop :=
  (a = none ∧ len = 0 ∧ cap = 0 ∧ zs = []) ∨
  ∃ x, a = some x ∧ len ≤ cap ∧ cap ≤ maxLen ∧ zs.length = cap ∧ (∀ i, i < zs.length → w.cell? (x.add i) = some (.int k (zs.getD i 0))) ∧ ∀ n ∈ zs, (Lit.int k n).wf = true

theorem stop_bytes (s : ByteArray) (k : Int) : rdBytes s 10 k = (ByteArray.empty, s, 10) := by simp [rdBytes]
theorem stop_int (s : ByteArray) (k : Int) : rdInt s 10 k = (0, s, 10) := by
  cases h : szB k
  · simp [rdInt, h]
  · simp [rdInt, h, stop_bytes, beNat]
theorem stop_text (s : ByteArray) : rdText s 10 = (ByteArray.empty, s, 10) := by simp [rdText, stop_int, stop_bytes]

theorem int_stop (b : Nat) (s : ByteArray) (k : Int) (w : World) (h : Rd b s 10 w) :
    Calls Try.prog 15 #[.pointer (some ⟨b, 0, none⟩), .int .i64 k] w fun r w' => r = .returned (.int .i64 0) ∧ Rd b s 10 w' ∧ Only b w w' := by
  have c := int_any b s 10 k w h
  rw [stop_int] at c
  exact c
theorem bytes_stop (b : Nat) (s : ByteArray) (k : Int) (w : World) (h : Rd b s 10 w) :
    Calls Try.prog 19 #[.pointer (some ⟨b, 0, none⟩), .int .i64 k] w fun r w' => r = .returned (.string ⟨#[]⟩) ∧ Rd b s 10 w' ∧ Only b w w' := by
  have c := bytes_any b s 10 k w h
  rw [stop_bytes] at c
  exact c
theorem text_stop (b : Nat) (s : ByteArray) (w : World) (h : Rd b s 10 w) :
    Calls Try.prog 17 #[.pointer (some ⟨b, 0, none⟩)] w fun r w' => r = .returned (.string ⟨#[]⟩) ∧ Rd b s 10 w' ∧ Only b w w' := by
  have c := rtext_any b s 10 w h
  rw [stop_text] at c
  exact c
theorem end_stop (b : Nat) (s : ByteArray) (w : World) (h : Rd b s 10 w) :
    Calls Try.prog 23 #[.pointer (some ⟨b, 0, none⟩)] w fun r w' => r = .returned (.int .i64 10) ∧ w = w' := by
  have c := end_any b s 10 w h
  have e : rdEnd s 10 = 10 := by simp [rdEnd]
  rw [e] at c
  exact c
theorem bytes_over (b : Nat) (s : ByteArray) (n : Int) (w : World) (h : Rd b s 0 w) (hn : (s.size : Int) < n) :
    Calls Try.prog 19 #[.pointer (some ⟨b, 0, none⟩), .int .i64 n] w fun r w' => r = .returned (.string ⟨#[]⟩) ∧ Rd b s 10 w' ∧ Only b w w' := by
  have c := bytes_any b s 0 n w h
  have e : rdBytes s 0 n = (ByteArray.empty, s, 10) := by
    have h1 : ¬ n < 0 := by omega
    simp [rdBytes, h1, hn]
  rw [e] at c
  exact c

theorem cell_lt {w : World} {p : Addr} {v : Value} (h : w.cell? p = some v) : p.block < w.heap.size := by
  unfold World.cell? at h
  by_cases hb : p.block < w.heap.size
  · exact hb
  · rw [Array.getElem?_eq_none (by omega)] at h
    simp at h

/-- What a row that came in reads as, in whatever later world. -/
theorem IsRow.later {w : World} {a : Option Addr} {len cap : Nat} {zs : List Int} (h : IsRow .i64 w a len cap zs) :
    ∀ w', Below w.heap.size w w' → ∀ k, k < len → ∃ b o n, a = some ⟨b, o, none⟩ ∧ w'.cell? ⟨b, o + k, none⟩ = some (.int .i64 n) := by
  intro w' hb k hk
  rcases h with ⟨_, h, _, _⟩ | ⟨x, rfl, hl, _, hz, hcell, _⟩
  · omega
  · obtain ⟨b, o, rfl, hc⟩ := ints_at hcell (by omega)
    have h1 := hc k (by omega)
    refine ⟨b, o, zs.getD k 0, rfl, ?_⟩
    rw [hb.cell (cell_lt h1)]
    exact h1

namespace codecStops
set_option maxHeartbeats 1000000 in
theorem walk_long (s : ByteArray) (a : Option Addr) (len cap : Nat) (w : World) (_hs : s.size ≤ maxLen) (hl : 4096 < (s.size : Int)) :
    Calls Try.prog 8 #[.string s, .slice a len cap] w fun e w' => e = .returned (.bool true) ∧ Below w.heap.size w w' := by
  unfold maxLen at _hs
  go_enter Try.func8, Try.ntmps8
  go_wp2_with fail
  refine (works_any _).mono ?_
  rintro e w1 ⟨rfl, hb1⟩
  go_wp2
  go_ret
  exact ⟨rfl, hb1⟩

set_option maxHeartbeats 1000000 in
theorem walk_many (s : ByteArray) (a : Option Addr) (len cap : Nat) (w : World) (_hl : ¬ 4096 < (s.size : Int)) (hn : 60 < (len : Int)) :
    Calls Try.prog 8 #[.string s, .slice a len cap] w fun e w' => e = .returned (.bool true) ∧ Below w.heap.size w w' := by
  go_enter Try.func8, Try.ntmps8
  go_wp2_with fail
  refine (works_any _).mono ?_
  rintro e w1 ⟨rfl, hb1⟩
  go_wp2
  go_ret
  exact ⟨rfl, hb1⟩

set_option maxHeartbeats 1000000 in
theorem walk_short (s : ByteArray) (a : Option Addr) (len cap : Nat) (w : World) (hl : ¬ 4096 < (s.size : Int)) (hn : ¬ 60 < (len : Int))
    (row : ∀ w', Below w.heap.size w w' → ∀ k, k < len → ∃ b o n, a = some ⟨b, o, none⟩ ∧ w'.cell? ⟨b, o + k, none⟩ = some (.int .i64 n)) :
    Calls Try.prog 8 #[.string s, .slice a len cap] w fun e w' => e = .returned (.bool true) ∧ Below w.heap.size w w' := by
  have gs : s.size ≤ maxLen := by unfold maxLen; omega
  have row' := row
  have ROW : Hid _ := row'
  clear row row'
  go_enter Try.func8, Try.ntmps8
  go_wp2_with fail
  refine (works_any _).mono ?_
  rintro e w1 ⟨rfl, hb1⟩
  go_wp2_with fail
  refine (read_any _ _).mono ?_
  rintro e w2 ⟨rfl, rfl⟩
  have H2 : Hid (Rd _ _ _ _) := Rd.made s gs w1
  go_wp2_with fail
  refine (bytes_over _ s _ _ H2.out (by omega)).mono ?_
  rintro e w3 ⟨rfl, hr3, ho3⟩
  have H3 : Hid (Rd _ _ _ _) := hr3
  clear hr3
  go_wp2_with fail
  refine (left_any _ _ _ _ H3.out).mono ?_
  rintro e w4 ⟨rfl, rfl⟩
  have k1 := hb1.size
  have F3 : Hid (Below w.heap.size w w3) := (hb1.alloc k1 _).trans (ho3.below k1)
  clear ho3 hb1 H2
  go_wp2
  go_loopw [8] (fun i wr => ∃ k : Nat, k ≤ len ∧ i = .int .i64 k ∧ Hid (Rd w1.heap.size s 10 wr) ∧ Hid (Below w.heap.size w wr)) (fun i _ => len - (intOf i).toNat)
  case atStart => exact ⟨0, Nat.zero_le _, rfl, H3, F3⟩
  case round =>
    obtain ⟨k, hk, rfl, hr, hb⟩ := hrel
    by_cases hlt : k < len
    · obtain ⟨bx, o, n, rfl, hc⟩ := ROW.out wr hb.out k hlt
      go_wp2_with fail
      refine (int_stop _ s _ _ hr.out).mono ?_
      rintro e wa ⟨rfl, hra, hoa⟩
      have HA : Hid (Rd _ _ _ _) := hra
      have hba : Below w.heap.size w wa := hb.out.trans (hoa.below k1)
      obtain ⟨b', o', n', hab, hc'⟩ := ROW.out wa hba k hlt
      simp only [Option.some.injEq, Addr.mk.injEq, and_true] at hab
      obtain ⟨rfl, rfl⟩ := hab
      have BA : Hid (Below w.heap.size w wa) := hba
      clear hra hoa hba hc
      go_wp2_with fail
      refine (bytes_stop _ s _ _ HA.out).mono ?_
      rintro e wb ⟨rfl, hrb, hob⟩
      have HB : Hid (Rd _ _ _ _) := hrb
      have BB : Hid (Below w.heap.size w wb) := BA.out.trans (hob.below k1)
      clear hrb hob hc'
      go_wp2_with fail
      refine (text_stop _ s _ HB.out).mono ?_
      rintro e wc ⟨rfl, hrc, hoc⟩
      have HC : Hid (Rd _ _ _ _) := hrc
      have BC : Hid (Below w.heap.size w wc) := BB.out.trans (hoc.below k1)
      clear hrc hoc
      go_wp2_with fail
      refine (err_any _ _ _ _ HC.out).mono ?_
      rintro e wd ⟨rfl, rfl⟩
      go_wp2_with fail
      refine (left_any _ _ _ _ HC.out).mono ?_
      rintro e wd ⟨rfl, rfl⟩
      go_wp2_with fail
      refine (end_stop _ _ _ HC.out).mono ?_
      rintro e wd ⟨rfl, rfl⟩
      go_wp2
      exact ⟨⟨k + 1, by omega, by go_num, HC, BC⟩, by simp [intOf]; omega⟩
    · go_wp2
      go_ret
      exact ⟨rfl, hb.out⟩

theorem walk (s : ByteArray) (a : Option Addr) (len cap : Nat) (zs : List Int) (w : World) (hs : s.size ≤ maxLen) (hr : IsRow .i64 w a len cap zs) :
    Calls Try.prog 8 #[.string s, .slice a len cap] w fun e w' => e = .returned (.bool true) ∧ Below w.heap.size w w' := by
  by_cases hl : 4096 < (s.size : Int)
  · exact walk_long s a len cap w hs hl
  · by_cases hn : 60 < (len : Int)
    · exact walk_many s a len cap w hl hn
    · exact walk_short s a len cap w hl hn hr.later

end codecStops

end Go.Proofs.Ytciibbboimaccaa
