/-
  The walk of edge.Sort: of any row of pairs a new row, strictly rising, of the same members.
-/
import Derived.Test.YtifeeneojlhffaaLists
import Derived.Test.YtifeeneojlhffaaCpt
import Derived.Test.YtifeeneojlhffaaStab
namespace Go.Proofs.Ytifeeneojlhffaa
open Go.Shelf Go.RowKit Go.Lib Go.Sort

theorem cpP : CpP Try.prog where
  mixed := by kernel_rfl
  fC := Try.func39
  fCF := Try.func62
  t0 := Try.underlying0
  a0 := Try.isAgg0
  z0 := Try.sizeOf0
  v0 := Try.zeroValue0
  t3 := Try.underlying3
  a3 := Try.isAgg3
  z3 := Try.sizeOf3
  v3 := Try.zeroValue3
  t4 := Try.underlying4
  a4 := Try.isAgg4
  z4 := Try.sizeOf4
  v4 := Try.zeroValue4
  tP := Try.underlying39
  aP := Try.isAgg39
  zP := Try.sizeOf39
  vP := Try.zeroValue39
  tS := Try.underlying40
  aS := Try.isAgg40
  zS := Try.sizeOf40
  vS := Try.zeroValue40
  tF := Try.underlying82
  aF := Try.isAgg82
  zF := Try.sizeOf82
  vF := Try.zeroValue82

theorem equalPair (a b c d : Int) (w : World) : (Op.equalIn 10000 25 (.agg #[.int .i64 a, .int .i64 b]) (.agg #[.int .i64 c, .int .i64 d])).run Try.prog w = .ok (decide ((a, b) = (c, d))) w := by
  have u3 := Try.underlying3
  have a3 := Try.isAgg3
  have z3 := Try.sizeOf3
  have hS : Try.prog.underlying 25 = some (.struct (Try.prog.fieldsOf 25)) := by kernel_rfl
  have hp : Try.prog.stoodInHeld 25 = false := by kernel_rfl
  rw [show (10000 : Nat) = 9999 + 1 from rfl, run_equalIn_agg w 9999 25 _ _ hS hp]
  simp only [Program.fieldsOf, Try.underlying25]
  go_simp
  by_cases h1 : a = c <;> by_cases h2 : b = d <;> simp [h1, h2]

theorem eqlPair (x y : Pr) (w : World) : Sem.run Try.prog (binOp .eql 25 (.agg (encP x).toArray) (.agg (encP y).toArray)) w = .ok (.bool (decide (x = y))) w := by
  obtain ⟨a, b⟩ := x
  obtain ⟨c, d⟩ := y
  simp only [encP]
  rw [run_eql_struct, equalPair]
  rfl

theorem neqPair (x y : Pr) (w : World) : Sem.run Try.prog (binOp .neq 25 (.agg (encP x).toArray) (.agg (encP y).toArray)) w = .ok (.bool (!decide (x = y))) w := by
  obtain ⟨a, b⟩ := x
  obtain ⟨c, d⟩ := y
  simp only [encP]
  rw [run_neq_struct, equalPair]
  rfl

theorem gdPair (op : BinOp) (a b : Operand) (x y : Pr) (w : World) : Sem.run Try.prog (eqGuard op 25 a b (.agg (encP x).toArray) (.agg (encP y).toArray)) w = .ok () w :=
  GuardAt.agg (P := Try.prog) (T := 25) (fun x : Pr => (encP x).toArray) (by kernel_rfl) op a b x y w

set_option maxHeartbeats 1000000 in
theorem compact_short (ao : Option Addr) (cap : Nat) (w : World) : Calls Try.prog 39 #[.slice ao 0 cap] w fun e w' => e = .returned (.slice ao 0 cap) ∧ w' = w := by
  go_enter Try.func39, Try.ntmps39
  go_wp2
  go_ret
  exact ⟨rfl, rfl⟩

theorem ltOf_eq : ltOf cfP = ltP := by
  funext x y
  exact ltOf_cfP x y

theorem pairwise_of_sorted {d : Array Pr} (h : SortedIn ltP 0 d.size d) : d.toList.Pairwise (fun x y => ltP y x = false) := by
  rw [List.pairwise_iff_getElem]
  intro i j hi hj hij
  have hi' : i < d.size := by simpa using hi
  have hj' : j < d.size := by simpa using hj
  have := h i j (Nat.zero_le _) hij hj'
  rw [getElem!_pos d i hi', getElem!_pos d j hj'] at this
  simpa using this

theorem mem_of_permIn {d d' : Array Pr} (h : PermIn 0 d.size d d') (x : Pr) : x ∈ d'.toList ↔ x ∈ d.toList := by
  have h1 := h.2.2
  have e1 : (d'.extract 0 d.size) = d' := by rw [← h.1]; simp
  have e2 : (d.extract 0 d.size) = d := by simp
  rw [e1, e2] at h1
  exact h1.mem_iff

set_option maxHeartbeats 1000000 in
/-- The sort, in place, of a row of the call's own, and its runs cut to one. -/
theorem sorted_cut (g off cap : Nat) (l : List Pr) (w : World) (_hne : l ≠ []) (hl : l.length ≤ 1000000) (hcap : l.length ≤ cap) (hb : g < w.heap.size) (hH : HoldsK encP 2 w g off l.toArray) :
    Calls Try.prog 38 #[.slice (some ⟨g, off, none⟩) l.length cap, .func (.func 16) #[] #[]] w fun e w1 => e = .returned (.tuple #[]) ∧ ∃ s, s.length ≤ l.length ∧ SS s ∧ (∀ x, x ∈ s ↔ x ∈ l) ∧ Calls Try.prog 39 #[.slice (some ⟨g, off, none⟩) l.length cap] w1 (CutTo encP 2 w g off cap s) := by
  have hc := AnyQ.slices_SortFunc Try.sortPair 2 Try.isAgg25 Try.sizeOf25 encP encP_len encP_one cfP (by rw [ltOf_eq]; exact swoP) 16 #[] g off cap l.toArray w (enters_of Try.func16 (by kernel_rfl) rfl) (fun _ _ _ _ x y => by simpa using cmp_any x y _) hH hb (by simp; omega)
  have e : (l.toArray.size : Nat) = l.length := by simp
  rw [e] at hc
  refine Calls.mono hc ?_
  rintro e w1 ⟨rfl, d', n, os, hp, hs, rfl⟩
  have hds : d'.size = l.length := by have := hp.1; simpa using this
  rw [ltOf_eq] at hs
  have R : RowK encP 2 w g off l.toArray := ⟨encP_len, encP_one, hH, hb⟩
  refine ⟨rfl, uniq (fun x y => decide (x = y)) d'.toList, ?_, ?_, fun x => ?_, ?_⟩
  · have hd2 : d'.toList.length = l.length := by simpa using hds
    exact Nat.le_trans (uniq_length _ _) (Nat.le_of_eq hd2)
  · exact (uniq_pr _ (pairwise_of_sorted (by rw [hds]; exact hs))).1
  · rw [(uniq_pr _ (pairwise_of_sorted (by rw [hds]; exact hs))).2 x, mem_of_permIn (d := l.toArray) (by rw [List.size_toArray]; exact hp) x]
  · have := compact_any cpP 2 Try.isAgg25 Try.sizeOf25 encP (fun x y => decide (x = y)) eqlPair neqPair gdPair #[.int .i64 0, .int .i64 0] Try.zeroValue25 rfl (by decide) (by decide) g off cap l.toArray d' w (sortWorldK encP 2 w g off n d' os) R (by rw [hds]; simp) ⟨n, os, rfl⟩ (by omega) (by omega) (by omega)
    rw [hds] at this
    exact this

set_option maxHeartbeats 1000000 in
theorem sort_any (v : Value) (l : List Pr) (w : World) (h : Row encP 2 w v l) (hl : l.length ≤ 1000000) :
    Calls Try.prog 19 #[v] w fun e w' => ∃ v' s, e = .returned v' ∧ Own encP 2 w.heap.size w' v' s ∧ SS s ∧ s.length ≤ l.length ∧ (∀ x, x ∈ s ↔ x ∈ l) ∧ Below w.heap.size w w' := by
  have HC : Hid _ := clonePair_any v l w h hl
  clear h
  go_enter Try.func19, Try.ntmps19
  go_wp2_with fail
  refine Calls.mono HC.out ?_
  rintro e w1 ⟨v1, rfl, ⟨ao, cap, rfl, h1, h2, h3⟩, hb1⟩
  by_cases hne : l = []
  · subst hne
    have S := AnyF.slices_SortFunc_none (P := Try.prog) { Try.sortPair with } ao cap (.func (.func 16) #[] #[]) w1
    have C := compact_short ao cap w1
    change Calls Try.prog 38 _ _ _ at S
    have HS : Hid _ := S
    have HK : Hid _ := C
    clear S C
    simp only [List.length_nil]
    go_wp2_with fail
    refine Calls.mono HS.out ?_
    rintro e w2 ⟨rfl, rfl⟩
    go_wp2_with fail
    refine Calls.mono HK.out ?_
    rintro e w3 ⟨rfl, rfl⟩
    go_wp2
    go_ret
    exact ⟨_, [], rfl, ⟨ao, cap, rfl, h1, h2, fun h => absurd rfl h⟩, SS.nil, Nat.le_refl _, fun x => Iff.rfl, hb1⟩
  · obtain ⟨g, off, rfl, hbase, hlt, hH⟩ := h3 hne
    have HS : Hid _ := sorted_cut g off cap l w1 hne hl h1 hlt hH
    have H2 : Hid _ := hH
    clear hH h3
    go_wp2_with fail
    refine Calls.mono HS.out ?_
    rintro e w2 ⟨rfl, s, hsl, hss, hmem, C⟩
    have HK : Hid _ := C
    clear C
    go_wp2_with fail
    refine Calls.mono HK.out ?_
    rintro e w3 ⟨rfl, hH3, hlt3, hB3⟩
    go_wp2
    go_ret
    exact ⟨_, s, rfl, ⟨_, cap, rfl, by omega, (fun h => by cases h), fun _ => ⟨g, off, rfl, hbase, hlt3, hH3⟩⟩, hss, hsl, hmem, hb1.trans (hB3 _ hbase hb1.size)⟩

end Go.Proofs.Ytifeeneojlhffaa
