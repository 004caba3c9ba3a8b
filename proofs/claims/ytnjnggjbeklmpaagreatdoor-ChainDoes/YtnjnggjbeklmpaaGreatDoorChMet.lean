/-
  What was met, in a map; the walks of package chain's again, unlike, idAt and given.
-/
import Derived.Test.YtnjnggjbeklmpaaGreatDoorChD
import Derived.Test.YtnjnggjbeklmpaaGreatDoorBFile
namespace Go.Proofs.YtnjnggjbeklmpaaGreatDoor
open Go.RowKit
open Go.ChangeMaps (setBlock)
set_option linter.unusedVariables false

def memB (g : Int → Bool) (k : Int) : Option Value := if g k = true then some (.agg #[]) else none

theorem MapIs.lookU {w : World} {m : Nat} {g : Int → Bool} (h : MapIs w m (memB g)) (k : Int) :
    (Instr.lookup 111 (.map (some m)) (.int .i64 k) true).run Tryz.prog w = .ok (.tuple #[.agg #[], .bool (g k)]) w := by
  obtain ⟨es, clock, hb, hk, hg⟩ := h
  rcases findNow_int k es.toList 0 hk with ⟨h1, h2⟩ | ⟨j, e, h1, h2, h3, h4⟩
  · have e := hg k
    rw [h1] at e
    have hgk : g k = false := by
      unfold memB at e
      cases hh : g k with
      | false => rfl
      | true => rw [hh] at e; simp at e
    rw [hgk]
    simp [Instr.lookup, run_underlying Tryz.underlying111, MapKept.run_getObj_map hb, checkKey_run, findKey_run k _ w _ h2, Result.andThen]
  · have e1 := hg k
    rw [h2] at e1
    have hgk : g k = true ∧ e.val = .agg #[] := by
      unfold memB at e1
      cases hh : g k with
      | false => rw [hh] at e1; simp at e1
      | true => rw [hh] at e1; simp at e1; exact ⟨rfl, e1⟩
    rw [hgk.1]
    simp [Instr.lookup, run_underlying Tryz.underlying111, MapKept.run_getObj_map hb, checkKey_run, findKey_run k _ w _ h4, Result.andThen, hgk.2]

theorem MapIs.putU {w : World} {m : Nat} {g : Int → Option Value} (h : MapIs w m g) (k : Int) (v : Value) :
    ∃ es clock, (∀ u : World, u.heap[m]? = w.heap[m]? → (Instr.mapUpdate 111 (.map (some m)) (.int .i64 k) v).run Tryz.prog u = .ok () (setBlock u m (.map es clock))) ∧
      ∀ u : World, u.heap[m]? = some (.map es clock) → MapIs u m (fun q => if q = k then some v else g q) := by
  obtain ⟨es, clock, hb, hk, hg⟩ := h
  rcases findNow_int k es.toList 0 hk with ⟨h1, h2⟩ | ⟨j, e, h1, h2, h3, h4⟩
  · refine ⟨es.push { key := .int .i64 k, val := v, born := clock }, clock + 1, fun u hu => ?_, fun u hu => ⟨_, _, hu, ?_, fun q => ?_⟩⟩
    · rw [hb] at hu
      simp [Instr.mapUpdate, run_underlying Tryz.underlying111, MapKept.run_getObj_map hu, checkKey_run, findKey_run k _ u _ h2, MapKept.run_setObj_map _ hu, Result.andThen, setBlock]
    · intro x hx
      rw [Array.toList_push, List.mem_append] at hx
      rcases hx with hx | hx
      · exact hk x hx
      · simp at hx; subst hx; exact ⟨k, rfl⟩
    · rw [Array.toList_push, find_push k q v clock es.toList h1, hg q]
  · have hj : es[j]? = some e := by simpa using h1
    obtain ⟨q0, hq0⟩ := hk e (List.mem_of_getElem? h1)
    have hqk : q0 = k := by
      have := List.find?_some h2
      simp [isKey, hq0] at this
      exact this.symm
    subst hqk
    refine ⟨es.modify j fun e => { e with key := .int .i64 q0, val := v }, clock, fun u hu => ?_, fun u hu => ⟨_, _, hu, ?_, fun q => ?_⟩⟩
    · rw [hb] at hu
      simp [Instr.mapUpdate, run_underlying Tryz.underlying111, MapKept.run_getObj_map hu, checkKey_run, findKey_run q0 _ u _ h4, MapKept.run_setObj_map _ hu, Result.andThen, setBlock, hj, hq0, Instr.keyThatStays, Instr.sameBits]
    · intro x hx
      rw [Array.toList_modify] at hx
      obtain ⟨n, hn⟩ := List.mem_iff_getElem?.1 hx
      rw [List.getElem?_modify] at hn
      cases hy : es.toList[n]? with
      | none => rw [hy] at hn; simp at hn
      | some y =>
        rw [hy] at hn
        simp only [Option.map_eq_map, Option.map_some, Option.some.injEq] at hn
        split at hn
        · subst hn; exact ⟨q0, rfl⟩
        · subst hn; exact hk y (List.mem_of_getElem? hy)
    · rw [Array.toList_modify, find_modify q0 q v es.toList j e h1 hq0 h3, hg q]

/-- A set of numbers in a map. -/
def SetM (m : Nat) (g : Int → Bool) : Res := fun w X => MapIs w m (memB g) ∧ ∀ k, X k ↔ k = m
theorem good_set (m : Nat) (g : Int → Bool) : Good (SetM m g) :=
  ⟨fun w w' X h hk _ => ⟨h.1.kept (hk m ((h.2 m).2 rfl)), h.2⟩, fun w X h k hk => by rw [(h.2 k).1 hk]; exact h.1.lt⟩
def addB (g : Int → Bool) (i : Int) : Int → Bool := fun q => decide (q = i) || g q
theorem memB_add (g : Int → Bool) (i : Int) : (fun q => if q = i then some (.agg #[]) else memB g q) = memB (addB g i) := by
  funext q
  unfold memB addB
  by_cases h : q = i
  · simp [h]
  · simp [h]

section
variable {B : Nat} {w0 w w' : World} {l : List Res} {m : Nat} {g : Int → Bool}
theorem Sep.set (h : Sep B w0 w (SetM m g :: l)) : MapIs w m (memB g) := by
  obtain ⟨_, _, Y, ⟨_, X, _, ha, _⟩, _⟩ := h; exact ha.1
theorem Sep.addSet (h : Sep B w0 w l) : Sep B w0 (w.alloc (.map #[] 0)) (SetM w.heap.size (fun _ => false) :: l) :=
  h.add ((Below.refl _ _).alloc (Nat.le_refl _) _) (good_set _ _) (X := fun k => k = w.heap.size) ⟨MapIs.empty (clock := 0) (heap_alloc_new w _), fun _ => Iff.rfl⟩ (fun k hk => Nat.le_of_eq hk.symm)
theorem Sep.setPut (h : Sep B w0 w (SetM m g :: l)) (i : Int) : ∃ es clock, (∀ u : World, u.heap[m]? = w.heap[m]? → (Instr.mapUpdate 111 (.map (some m)) (.int .i64 i) (.agg #[])).run Tryz.prog u = .ok () (setBlock u m (.map es clock))) ∧
    ∀ u : World, Sep B w0 u (SetM m g :: l) → u.heap[m]? = w.heap[m]? → Sep B w0 (setBlock u m (.map es clock)) (SetM m (addB g i) :: l) := by
  obtain ⟨es, clock, h1, h2⟩ := h.set.putU i (.agg #[])
  refine ⟨es, clock, h1, fun u hu _ => ?_⟩
  refine hu.step (good_set _ _) fun X hX => ⟨X, ⟨?_, hX.2⟩, Turn.setBlock u ((hX.2 m).2 rfl) _, fun k hk => .inl hk⟩
  have := h2 (setBlock u m (.map es clock)) (setBlock_same hX.1.lt _)
  rw [memB_add] at this
  exact this

set_option maxHeartbeats 400000 in
theorem again_s (h : Sep B w0 w (SetM m g :: l)) (i : Int) : Calls Tryz.prog 50 #[.map (some m), .int .i64 i] w fun e w' => e = .returned (.bool (g i)) ∧ Sep B w0 w' (SetM m (addB g i) :: l) := by
  have hl := h.set.lookU i
  have hlt := h.set.lt
  obtain ⟨es, clock, h1, h2⟩ := h.setPut i
  have A : Hid (Sep B w0 (w.alloc (.cells #[] 60)) (SetM m g :: l)) := h.alloc _
  have hm : (w.alloc (.cells #[] 60)).heap[m]? = w.heap[m]? := Below.heap_alloc _ _ _ hlt
  have hp := h1 _ hm
  have S2 : Hid (Sep B w0 (setBlock (w.alloc (.cells #[] 60)) m (.map es clock)) (SetM m (addB g i) :: l)) := h2 _ A.out hm
  clear h h1 h2 A hm
  generalize g i = gi at *
  go_enter Tryz.func50, Tryz.ntmps50
  go_wp2
  go_ret
  exact ⟨rfl, S2.out⟩

theorem IntRow.len {w : World} {ao : Option Addr} {n c : Nat} {ids : List Int} (h : IntRow w (.slice ao n c) ids) : n = ids.length := by
  obtain ⟨ao', c', e, _⟩ := h; cases e; rfl
theorem IntRow.at {w : World} {ao : Option Addr} {n c : Nat} {ids : List Int} (h : IntRow w (.slice ao n c) ids) {i : Nat} (hi : i < ids.length) : ∃ r o, ao = some ⟨r, o, none⟩ ∧ r < w.heap.size ∧ w.cell? ⟨r, o + i, none⟩ = some (.int .i64 (ids.getD i 0)) := by
  obtain ⟨ao', c', e, h1⟩ := h
  cases e
  obtain ⟨r, o, e2, hr, hc⟩ := h1 (by intro e; rw [e] at hi; simp at hi)
  exact ⟨r, o, e2, hr, hc i hi⟩
theorem memT_add (ids : List Int) {i : Nat} (hi : i < ids.length) : addB (fun q => decide (q ∈ ids.take i)) (ids.getD i 0) = fun q => decide (q ∈ ids.take (i + 1)) := by
  funext q
  unfold addB
  rw [List.take_succ_eq_append_getElem hi, ← Bool.decide_or, decide_eq_decide, List.mem_append, List.mem_singleton, show ids.getD i 0 = ids[i] by simp [List.getD_eq_getElem?_getD, hi], or_comm]
theorem nodup_take_succ (ids : List Int) {i : Nat} (hi : i < ids.length) : (ids.take (i + 1)).Nodup ↔ (ids.take i).Nodup ∧ ids.getD i 0 ∉ ids.take i := by
  rw [List.take_succ_eq_append_getElem hi, nodup_snoc, show ids.getD i 0 = ids[i] by simp [List.getD_eq_getElem?_getD, hi]]
theorem nodup_take_of {ids : List Int} (h : ids.Nodup) (i : Nat) : (ids.take i).Nodup := h.sublist (List.take_sublist i ids)

theorem makeMet (w : World) : (Instr.makeMap 111 none).run Tryz.prog w = .ok (.map (some w.heap.size)) (w.alloc (.map #[] 0)) := by kernel_rfl

set_option maxHeartbeats 1000000 in
set_option maxRecDepth 100000 in
theorem unlike_s {ao : Option Addr} {n c : Nat} {ids : List Int} (h : Sep B w0 w l) (hI : ∀ u, Sep B w0 u l → IntRow u (.slice ao n c) ids) (hlen : ids.length ≤ 1000000) :
    Calls Tryz.prog 25 #[.slice ao n c] w fun e w' => e = .returned (.bool (decide ids.Nodup)) ∧ Sep B w0 w' l := by
  obtain rfl := (hI w h).len
  have HI : Hid (∀ u, Sep B w0 u l → IntRow u (.slice ao ids.length c) ids) := hI
  have S0 : Hid (Sep B w0 (w.alloc (.map #[] 0)) (SetM w.heap.size (fun _ => false) :: l)) := h.addSet
  clear h hI
  have hmk := makeMet w
  go_enter Tryz.func25, Tryz.ntmps25
  go_wp2
  clear hmk
  generalize w.alloc (.map #[] 0) = w1 at *
  generalize w.heap.size = m at *
  go_loopg [9] ids.length (fun kx s9 wr => ∃ i : Nat, s9 = .int .i64 i ∧ i ≤ ids.length ∧ ids.length - i ≤ kx ∧ Hid (Sep B w0 wr (SetM m (fun q => decide (q ∈ ids.take i)) :: l)) ∧ Hid ((ids.take i).Nodup))
  case atStart =>
    refine ⟨0, rfl, Nat.zero_le _, Nat.le_refl _, ?_, by simp [Hid]⟩
    have e : (fun q => decide (q ∈ ids.take 0)) = fun _ => false := by funext q; simp
    rw [e]
    exact S0
  case round =>
    obtain ⟨i, rfl, hi, hki, HS, HN⟩ := hrel
    clear S0
    by_cases hil : i < ids.length
    · have hilz : (i : Int) < (ids.length : Int) := by omega
      obtain ⟨r, o, rfl, hr, hc⟩ := (HI.out wr HS.out.drop).at hil
      have CA : Hid _ := again_s HS.out (ids.getD i 0)
      rw [memT_add ids hil] at CA
      have NT : Hid ((ids.take (i + 1)).Nodup ↔ (ids.take i).Nodup ∧ ids.getD i 0 ∉ ids.take i) := nodup_take_succ ids hil
      generalize ids.getD i 0 = x at *
      by_cases hm : x ∈ ids.take i
      · have F0 : Hid (¬ ids.Nodup) := fun hn => (NT.out.1 (nodup_take_of hn (i + 1))).2 hm
        rw [decide_eq_true hm] at CA
        clear hm
        go_wp2_with fail
        refine Calls.mono CA.out ?_
        rintro e w3 ⟨rfl, s3⟩
        have S3 : Hid (Sep B w0 w3 l) := s3.drop
        clear CA s3
        go_wp2
        go_ret
        exact ⟨ret_bool (decide_eq_false F0.out).symm, S3.out⟩
      · have N2 : Hid ((ids.take (i + 1)).Nodup) := NT.out.2 ⟨HN.out, hm⟩
        rw [decide_eq_false hm] at CA
        clear hm HN
        go_wp2_with fail
        refine Calls.mono CA.out ?_
        rintro e w3 ⟨rfl, s3⟩
        have S3 : Hid (Sep B w0 w3 (SetM m (fun q => decide (q ∈ ids.take (i + 1))) :: l)) := s3
        clear CA s3
        go_wp2
        go_roundg (ids.length - (i + 1))
        case measure => omega
        case rel => exact ⟨i + 1, by go_num, by omega, Nat.le_refl _, S3, N2⟩
    · have hilz : ¬ (i : Int) < (ids.length : Int) := by omega
      obtain rfl : i = ids.length := by omega
      rw [List.take_length] at HN
      go_wp2
      go_ret
      exact ⟨ret_bool (decide_eq_true HN.out).symm, HS.out.drop⟩

set_option maxHeartbeats 400000 in
theorem idAt_any {ao : Option Addr} {n c : Nat} {ids : List Int} (h : IntRow w (.slice ao n c) ids) (i : Nat) (hi : i ≤ 1000000) : Calls Tryz.prog 27 #[.slice ao n c, .int .i64 i] w fun e w' => e = .returned (.int .i64 (ids.getD i 0)) ∧ w = w' := by
  obtain rfl := h.len
  by_cases hil : i < ids.length
  · have hilz : ¬ (ids.length : Int) ≤ (i : Int) := by omega
    obtain ⟨r, o, rfl, hr, hc⟩ := h.at hil
    generalize ids.getD i 0 = x at *
    clear h
    go_enter Tryz.func27, Tryz.ntmps27
    go_wp2
    go_ret
    exact ⟨rfl, rfl⟩
  · have hilz : (ids.length : Int) ≤ (i : Int) := by omega
    have E : Hid (ids.getD i 0 = 0) := by show _ = _; rw [List.getD_eq_getElem?_getD, List.getElem?_eq_none (by omega)]; rfl
    clear h
    go_enter Tryz.func27, Tryz.ntmps27
    go_wp2
    go_ret
    exact ⟨ret_int E.out.symm, rfl⟩

set_option maxHeartbeats 400000 in
theorem given_f {f : Nat} (w : World) : Calls Tryz.prog 26 #[ptr f] w fun e w' => e = .returned (ptr f) ∧ w = w' := by
  go_enter Tryz.func26, Tryz.ntmps26
  go_wp2
  go_ret
  exact ⟨rfl, rfl⟩
end

end Go.Proofs.YtnjnggjbeklmpaaGreatDoor
