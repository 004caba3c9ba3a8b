/-
  The walk of the law CodecReads: whatever is asked of a Reader, it answers as the document's does.
-/
import Derived.Test.YtciibbboimaccaaRef
import Derived.Test.YtciibbboimaccaaStopsWalk
namespace Go.Proofs.Ytciibbboimaccaa
open Go.RowKit

theorem extract_all (s : ByteArray) : s.extract 0 s.size = s := by
  apply ba_ext
  rw [Lib.extract_to_end]
  rfl

/-- The two readers stand alike. -/
structure Two (br bq : Nat) (s : ByteArray) (i : Nat) (e : Int) (w : World) : Prop where
  r : Rd br (s.extract i s.size) e w
  q : Rq bq s i e w

theorem Two.below {br bq : Nat} {s : ByteArray} {i : Nat} {e : Int} {w w' : World} (h : Two br bq s i e w) (n : Nat) (hw : w' = w.drewN n) : Two br bq s i e w' := by
  subst hw
  exact ⟨⟨h.r.blk, h.r.sz⟩, h.q.drewN n⟩

theorem below_more {B : Nat} {u w : World} (h : Below B u w) (n : Nat) : Below B u (w.drewN n) := ⟨h.os, h.tape, h.output, h.size, h.block⟩

/-- What a row that came in reads as, in whatever later world; each number is an int. -/
theorem IsRow.laterB {w : World} {a : Option Addr} {len cap : Nat} {zs : List Int} (h : IsRow .i64 w a len cap zs) :
    ∀ w', Below w.heap.size w w' → ∀ k, k < len → ∃ b o n, a = some ⟨b, o, none⟩ ∧ w'.cell? ⟨b, o + k, none⟩ = some (.int .i64 n) ∧ n ≤ 9223372036854775807 := by
  intro w' hb k hk
  rcases h with ⟨_, h, _, _⟩ | ⟨x, rfl, hl, _, hz, hcell, hwf⟩
  · omega
  · obtain ⟨b, o, rfl, hc⟩ := ints_at hcell (by omega)
    have h1 := hc k (by omega)
    refine ⟨b, o, zs.getD k 0, rfl, ?_, ?_⟩
    · rw [hb.cell (cell_lt h1)]
      exact h1
    · have hm : zs.getD k 0 ∈ zs := by rw [List.getD_eq_getElem?_getD, List.getElem?_eq_getElem (by omega)]; simp
      exact (bounds_i64 (hwf _ hm)).2

theorem rdEnd_none (x : ByteArray) (h : x.size = 0) : rdEnd x 0 = 0 := by
  unfold rdEnd
  rw [if_neg (by simp), if_pos h]
theorem rdEnd_some (x : ByteArray) (h : x.size ≠ 0) : rdEnd x 0 = 11 := by
  unfold rdEnd
  rw [if_neg (by simp), if_neg h]

theorem int_sim (b p : Nat) (s : ByteArray) (e n : Int) (w : World) (h : Rd b (s.extract p s.size) e w) (hp : p ≤ s.size) :
    Calls Try.prog 15 #[.pointer (some ⟨b, 0, none⟩), .int .i64 n] w fun r w' => r = .returned (.int .i64 (rqInt s p e n).1) ∧ Rd b (s.extract (rqInt s p e n).2.1 s.size) (rqInt s p e n).2.2 w' ∧ Only b w w' := by
  have c := int_any b _ e n w h
  obtain ⟨h1, h2, h3, _⟩ := sim_int s p e n hp
  rw [h1, h2, h3] at c
  exact c
theorem bytes_sim (b p : Nat) (s : ByteArray) (e n : Int) (w : World) (h : Rd b (s.extract p s.size) e w) (hp : p ≤ s.size) :
    Calls Try.prog 19 #[.pointer (some ⟨b, 0, none⟩), .int .i64 n] w fun r w' => r = .returned (.string (rqBytes s p e n).1) ∧ Rd b (s.extract (rqBytes s p e n).2.1 s.size) (rqBytes s p e n).2.2 w' ∧ Only b w w' := by
  have c := bytes_any b _ e n w h
  obtain ⟨h1, h2, h3, _⟩ := sim_bytes s p e n hp
  rw [h1, h2, h3] at c
  exact c
theorem text_sim (b p : Nat) (s : ByteArray) (e : Int) (w : World) (h : Rd b (s.extract p s.size) e w) (hp : p ≤ s.size) :
    Calls Try.prog 17 #[.pointer (some ⟨b, 0, none⟩)] w fun r w' => r = .returned (.string (rqText s p e).1) ∧ Rd b (s.extract (rqText s p e).2.1 s.size) (rqText s p e).2.2 w' ∧ Only b w w' := by
  have c := rtext_any b _ e w h
  obtain ⟨h1, h2, h3, _⟩ := sim_text s p e hp
  rw [h1, h2, h3] at c
  exact c
theorem left_two (br bq p : Nat) (s : ByteArray) (e : Int) (w : World) (h : Two br bq s p e w) :
    Calls Try.prog 22 #[.pointer (some ⟨br, 0, none⟩)] w fun r w' => r = .returned (.int .i64 ((s.size : Int) - (p : Int))) ∧ w' = w := by
  have c := left_any br _ e w h.r
  have hp := h.q.le
  have hz : (((s.extract p s.size).size : Nat) : Int) = (s.size : Int) - (p : Int) := by simp; omega
  rw [hz] at c
  exact c.mono fun _ _ ⟨a, b⟩ => ⟨a, b.symm⟩
theorem err_two (br bq p : Nat) (s : ByteArray) (e : Int) (w : World) (h : Two br bq s p e w) :
    Calls Try.prog 21 #[.pointer (some ⟨br, 0, none⟩)] w fun r w' => r = .returned (.int .i64 e) ∧ w' = w :=
  (err_any br _ e w h.r).mono fun _ _ ⟨a, b⟩ => ⟨a, b.symm⟩

namespace codecReads
set_option maxHeartbeats 1000000 in
theorem walk_long (s : ByteArray) (a : Option Addr) (len cap : Nat) (w : World) (_hs : s.size ≤ maxLen) (hl : 4096 < (s.size : Int)) :
    Calls Try.prog 4 #[.string s, .slice a len cap] w fun e w' => e = .returned (.bool true) ∧ Below w.heap.size w w' := by
  unfold maxLen at _hs
  go_enter Try.func4, Try.ntmps4
  go_wp2_with fail
  refine (works_any _).mono ?_
  rintro e w1 ⟨rfl, hb1⟩
  go_wp2
  go_ret
  exact ⟨rfl, hb1⟩

set_option maxHeartbeats 1000000 in
theorem walk_many (s : ByteArray) (a : Option Addr) (len cap : Nat) (w : World) (_hl : ¬ 4096 < (s.size : Int)) (hn : 60 < (len : Int)) :
    Calls Try.prog 4 #[.string s, .slice a len cap] w fun e w' => e = .returned (.bool true) ∧ Below w.heap.size w w' := by
  go_enter Try.func4, Try.ntmps4
  go_wp2_with fail
  refine (works_any _).mono ?_
  rintro e w1 ⟨rfl, hb1⟩
  go_wp2
  go_ret
  exact ⟨rfl, hb1⟩

set_option maxRecDepth 100000 in
set_option maxHeartbeats 4000000 in
theorem walk_short (s : ByteArray) (a : Option Addr) (len cap : Nat) (w : World) (hl : ¬ 4096 < (s.size : Int)) (hn : ¬ 60 < (len : Int))
    (row : ∀ w', Below w.heap.size w w' → ∀ k, k < len → ∃ b o n, a = some ⟨b, o, none⟩ ∧ w'.cell? ⟨b, o + k, none⟩ = some (.int .i64 n) ∧ n ≤ 9223372036854775807) :
    Calls Try.prog 4 #[.string s, .slice a len cap] w fun e w' => e = .returned (.bool true) ∧ Below w.heap.size w w' := by
  have gs : s.size ≤ maxLen := by unfold maxLen; omega
  have row' := row
  have ROW : Hid _ := row'
  clear row row'
  go_enter Try.func4, Try.ntmps4
  go_wp2_with fail
  refine (works_any _).mono ?_
  rintro e w1 ⟨rfl, hb1⟩
  go_wp2_with fail
  refine (read_any _ _).mono ?_
  rintro e w2 ⟨rfl, rfl⟩
  have H2 : Hid (Rd _ _ _ _) := Rd.made s gs w1
  have k1 := hb1.size
  go_wp2_with fail
  have h0 : Two w1.heap.size (w1.heap.size + 1) s 0 0 ((w1.alloc (Obj.cells #[Value.string s, Value.int IntKind.i64 0] 51)).alloc (Obj.cells #[Value.string s, Value.int IntKind.i64 0, Value.int IntKind.i64 0] 38)) := by
    refine ⟨?_, ?_⟩
    · rw [extract_all]
      exact H2.out.below ((Below.refl _ _).alloc (Nat.le_refl _) _) (by simp)
    · have := Rq.made s gs (w1.alloc (Obj.cells #[Value.string s, Value.int IntKind.i64 0] 51))
      rwa [World.size_alloc] at this
  have T0 : Hid (Two _ _ _ _ _ _) := h0
  have F0 : Hid (Below w.heap.size w ((w1.alloc (Obj.cells #[Value.string s, Value.int IntKind.i64 0] 51)).alloc (Obj.cells #[Value.string s, Value.int IntKind.i64 0, Value.int IntKind.i64 0] 38))) := (hb1.alloc k1 _).alloc (by simp; omega) _
  clear h0 H2 hb1
  go_loopw [8] (fun i wr => ∃ (k p : Nat) (e : Int), k ≤ len ∧ i = .int .i64 k ∧ Hid (Two w1.heap.size (w1.heap.size + 1) s p e wr) ∧ Hid (Below w.heap.size w wr)) (fun i _ => len - (intOf i).toNat)
  case atStart => exact ⟨0, 0, 0, Nat.zero_le _, rfl, T0, F0⟩
  case round =>
    obtain ⟨k, p, e, hk, rfl, hr, hb⟩ := hrel
    by_cases hlt : k < len
    · obtain ⟨bx, o, n, rfl, hc, hc9⟩ := ROW.out wr hb.out k hlt
      have hp := hr.out.q.le
      by_cases c1 : 0 ≤ n ∧ n < 10
      · obtain ⟨c1, c2⟩ := c1
        have CA : Hid _ := int_sim _ p s e n wr hr.out.r hp
        have CB : ∀ w', Hid (Rq _ s p e w' → Calls _ _ _ w' _) := fun w' h => qint_any (w1.heap.size + 1) p s e n w' h
        have hq : Hid (Rq _ s p e wr) := hr.out.q
        generalize rqInt s p e n = t at *
        obtain ⟨x, p', e'⟩ := t
        go_wp2_with fail
        refine Calls.mono CA.out ?_
        rintro r wa ⟨rfl, hra, hoa⟩
        have HRA : Hid (Rd _ _ _ _) := hra
        have HOA : Hid (Only _ _ _) := hoa
        clear hra hoa
        go_wp2_with fail
        refine Calls.mono ((CB _).out (hq.out.keep HOA.out (by omega))) ?_
        rintro r wb ⟨rfl, hqb, hob⟩
        have TB : Hid (Two w1.heap.size (w1.heap.size + 1) s p' e' wb) := ⟨HRA.out.keep hob (by omega), hqb⟩
        have FB : Hid (Below w.heap.size w wb) := (hb.out.trans (HOA.out.below k1)).trans (hob.below (by omega))
        clear hqb hob CA CB HRA HOA hq hr hb hc
        have TD : ∀ n, Hid (Two w1.heap.size (w1.heap.size + 1) s p' e' (wb.drewN n)) := fun n => TB.out.below n rfl
        have d2 := TB.out.q.c2
        have d1 := TB.out.q.c1
        have hp' := TB.out.q.le
        go_wp2_with fail
        go_quiet ((first | (go_at_call 21; exact Calls.quiet_of_same (err_two _ _ _ _ _ _ (TD _).out)) | (go_at_call 22; exact Calls.quiet_of_same (left_two _ _ _ _ _ _ (TD _).out))))
        go_wp2
        exact ⟨⟨k + 1, p', e', by omega, by go_num, TB.out.below _ rfl, below_more FB.out _⟩, by simp [intOf]; omega⟩
      · by_cases c3 : n = 10
        · subst c3
          clear c1
          have CA : Hid _ := text_sim _ p s e wr hr.out.r hp
          have CB : ∀ w', Hid (Rq _ s p e w' → Calls _ _ _ w' _) := fun w' h => qtext_any (w1.heap.size + 1) p s e w' h
          have hq : Hid (Rq _ s p e wr) := hr.out.q
          generalize rqText s p e = t at *
          obtain ⟨x, p', e'⟩ := t
          go_wp2_with fail
          refine Calls.mono CA.out ?_
          rintro r wa ⟨rfl, hra, hoa⟩
          have HRA : Hid (Rd _ _ _ _) := hra
          have HOA : Hid (Only _ _ _) := hoa
          clear hra hoa
          go_wp2_with fail
          refine Calls.mono ((CB _).out (hq.out.keep HOA.out (by omega))) ?_
          rintro r wb ⟨rfl, hqb, hob⟩
          have TB : Hid (Two w1.heap.size (w1.heap.size + 1) s p' e' wb) := ⟨HRA.out.keep hob (by omega), hqb⟩
          have FB : Hid (Below w.heap.size w wb) := (hb.out.trans (HOA.out.below k1)).trans (hob.below (by omega))
          clear hqb hob CA CB HRA HOA hq hr hb hc
          have TD : ∀ n, Hid (Two w1.heap.size (w1.heap.size + 1) s p' e' (wb.drewN n)) := fun n => TB.out.below n rfl
          have d2 := TB.out.q.c2
          have d1 := TB.out.q.c1
          have hp' := TB.out.q.le
          go_wp2_with fail
          go_quiet ((first | (go_at_call 21; exact Calls.quiet_of_same (err_two _ _ _ _ _ _ (TD _).out)) | (go_at_call 22; exact Calls.quiet_of_same (left_two _ _ _ _ _ _ (TD _).out))))
          go_wp2
          exact ⟨⟨k + 1, p', e', by omega, by go_num, TB.out.below _ rfl, below_more FB.out _⟩, by simp [intOf]; omega⟩
        · by_cases c4 : n < 0
          · have c5 : (n == 10) = false := beq_eq_false_iff_ne.2 c3
            clear c1 c3
            have CA : Hid _ := bytes_sim _ p s e n wr hr.out.r hp
            have CB : ∀ w', Hid (Rq _ s p e w' → Calls _ _ _ w' _) := fun w' h => qbytes_any (w1.heap.size + 1) p s e n w' h
            have hq : Hid (Rq _ s p e wr) := hr.out.q
            generalize rqBytes s p e n = t at *
            obtain ⟨x, p', e'⟩ := t
            go_wp2_with fail
            refine Calls.mono CA.out ?_
            rintro r wa ⟨rfl, hra, hoa⟩
            have HRA : Hid (Rd _ _ _ _) := hra
            have HOA : Hid (Only _ _ _) := hoa
            clear hra hoa
            go_wp2_with fail
            refine Calls.mono ((CB _).out (hq.out.keep HOA.out (by omega))) ?_
            rintro r wb ⟨rfl, hqb, hob⟩
            have TB : Hid (Two w1.heap.size (w1.heap.size + 1) s p' e' wb) := ⟨HRA.out.keep hob (by omega), hqb⟩
            have FB : Hid (Below w.heap.size w wb) := (hb.out.trans (HOA.out.below k1)).trans (hob.below (by omega))
            clear hqb hob CA CB HRA HOA hq hr hb hc
            have TD : ∀ n, Hid (Two w1.heap.size (w1.heap.size + 1) s p' e' (wb.drewN n)) := fun n => TB.out.below n rfl
            have d2 := TB.out.q.c2
            have d1 := TB.out.q.c1
            have hp' := TB.out.q.le
            go_wp2_with fail
            go_quiet ((first | (go_at_call 21; exact Calls.quiet_of_same (err_two _ _ _ _ _ _ (TD _).out)) | (go_at_call 22; exact Calls.quiet_of_same (left_two _ _ _ _ _ _ (TD _).out))))
            go_wp2
            exact ⟨⟨k + 1, p', e', by omega, by go_num, TB.out.below _ rfl, below_more FB.out _⟩, by simp [intOf]; omega⟩
          · have c5 : (n == 10) = false := beq_eq_false_iff_ne.2 c3
            have c6 : 10 < n := by omega
            clear c1 c3 c4
            have hm : n ≤ 9223372036854775807 := hc9
            have CA : Hid _ := bytes_sim _ p s e (n - 11) wr hr.out.r hp
            have CB : ∀ w', Hid (Rq _ s p e w' → Calls _ _ _ w' _) := fun w' h => qbytes_any (w1.heap.size + 1) p s e (n - 11) w' h
            have hq : Hid (Rq _ s p e wr) := hr.out.q
            generalize rqBytes s p e (n - 11) = t at *
            obtain ⟨x, p', e'⟩ := t
            go_wp2_with fail
            refine Calls.mono CA.out ?_
            rintro r wa ⟨rfl, hra, hoa⟩
            have HRA : Hid (Rd _ _ _ _) := hra
            have HOA : Hid (Only _ _ _) := hoa
            clear hra hoa
            go_wp2_with fail
            refine Calls.mono ((CB _).out (hq.out.keep HOA.out (by omega))) ?_
            rintro r wb ⟨rfl, hqb, hob⟩
            have TB : Hid (Two w1.heap.size (w1.heap.size + 1) s p' e' wb) := ⟨HRA.out.keep hob (by omega), hqb⟩
            have FB : Hid (Below w.heap.size w wb) := (hb.out.trans (HOA.out.below k1)).trans (hob.below (by omega))
            clear hqb hob CA CB HRA HOA hq hr hb hc
            have TD : ∀ n, Hid (Two w1.heap.size (w1.heap.size + 1) s p' e' (wb.drewN n)) := fun n => TB.out.below n rfl
            have d2 := TB.out.q.c2
            have d1 := TB.out.q.c1
            have hp' := TB.out.q.le
            go_wp2_with fail
            go_quiet ((first | (go_at_call 21; exact Calls.quiet_of_same (err_two _ _ _ _ _ _ (TD _).out)) | (go_at_call 22; exact Calls.quiet_of_same (left_two _ _ _ _ _ _ (TD _).out))))
            go_wp2
            exact ⟨⟨k + 1, p', e', by omega, by go_num, TB.out.below _ rfl, below_more FB.out _⟩, by simp [intOf]; omega⟩
    · have TB := hr
      have d2 := TB.out.q.c2
      have d1 := TB.out.q.c1
      have hp := TB.out.q.le
      have EN : Hid _ := end_any w1.heap.size (s.extract p s.size) e wr TB.out.r
      by_cases he : e = 0
      · subst he
        by_cases hz : p = s.size
        · have E : rdEnd (s.extract p s.size) 0 = 0 := rdEnd_none _ (by simp; omega)
          rw [E] at EN
          have hz' : ¬ (p : Int) < (s.size : Int) := by omega
          clear E hz hr
          go_wp2_with fail
          refine Calls.mono EN.out ?_
          rintro r wz ⟨rfl, rfl⟩
          go_wp2
          go_ret
          exact ⟨rfl, hb.out⟩
        · have E : rdEnd (s.extract p s.size) 0 = 11 := rdEnd_some _ (by simp; omega)
          rw [E] at EN
          have hz' : (p : Int) < (s.size : Int) := by omega
          clear E hz hr
          go_wp2_with fail
          refine Calls.mono EN.out ?_
          rintro r wz ⟨rfl, rfl⟩
          go_wp2
          go_ret
          exact ⟨rfl, hb.out⟩
      · have E : rdEnd (s.extract p s.size) e = e := by simp [rdEnd, he]
        rw [E] at EN
        have e1 : (e == 0) = false := beq_eq_false_iff_ne.2 he
        clear E he hr
        go_wp2_with fail
        refine Calls.mono EN.out ?_
        rintro r wz ⟨rfl, rfl⟩
        go_wp2
        go_ret
        exact ⟨rfl, hb.out⟩

theorem walk (s : ByteArray) (a : Option Addr) (len cap : Nat) (zs : List Int) (w : World) (hs : s.size ≤ maxLen) (hr : IsRow .i64 w a len cap zs) :
    Calls Try.prog 4 #[.string s, .slice a len cap] w fun e w' => e = .returned (.bool true) ∧ Below w.heap.size w w' := by
  by_cases hl : 4096 < (s.size : Int)
  · exact walk_long s a len cap w hs hl
  · by_cases hn : 60 < (len : Int)
    · exact walk_many s a len cap w hl hn
    · exact walk_short s a len cap w hl hn hr.laterB

end codecReads

end Go.Proofs.Ytciibbboimaccaa
