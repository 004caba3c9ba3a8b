/-
  The walks of the small functions of package runs and of the document: clip, the closures, Has, single, Same.
-/
import Derived.Test.YtoigljefajbofaaShelf
import Derived.Test.YtoigljefajbofaaRnMem
import Derived.BigQuiet
import Derived.Deep.DeepCutAuto
namespace Go.Proofs.Ytoigljefajbofaa
open Go.Shelf Go.RowKit Go.Lib Go.Sort

theorem results_cell {fn : Func} {p : Tmp} {ty : TypeId} (h : fn.results = #[.cell p ty]) (tmps : Array Value) (P : Program) (w : World) :
    (results fn tmps).run P w = ((asAddr (tmps.getD p undef)).run P w).andThen fun a w₁ => (loadVar ty a).run P w₁ := by
  simp only [results, h]
  simp [Sem.run_bind, Result.andThen]

theorem ret_bool {a b : Bool} (h : a = b) : Ending.returned (.bool a) = Ending.returned (.bool b) := by rw [h]
theorem ret_int {a b : Int} (h : a = b) : Ending.returned (.int .i64 a) = Ending.returned (.int .i64 b) := by rw [h]

theorem flat_one (x : Pr) : #[Value.int .i64 x.1, Value.int .i64 x.2] = flatK encP 2 [x].toArray := by
  apply Array.ext'
  have := flatK_snoc encP 2 encP_len [] x
  rw [List.nil_append] at this
  rw [this]
  simp [flatK, encP]

set_option maxHeartbeats 1000000 in
theorem clip_any (x : Pr) (w : World) : Calls Try.prog 36 #[.agg #[.int .i64 x.1, .int .i64 x.2]] w fun e w' => e = .returned (.agg #[.int .i64 (clipR x).1, .int .i64 (clipR x).2]) ∧ GR w w' := by
  go_enter Try.func36, Try.ntmps36
  go_wp2
  (try simp only [Exit.inBlock, Exit.then])
  refine bodyPost_ret (v := .agg #[.int .i64 (max x.1 0), .int .i64 (min x.2 4294967295)]) ?_ rfl ⟨rfl, ?_⟩
  · rw [results_cell rfl]
    go_simp
  · exact ((GR.refl w).alloc _).alloc _

set_option maxHeartbeats 1000000 in
theorem rclip_any (x : Pr) (w : World) : Calls Try.prog 29 #[.agg #[.int .i64 x.1, .int .i64 x.2]] w fun e w' => e = .returned (.tuple #[.agg #[.int .i64 (clipR x).1, .int .i64 (clipR x).2], .bool (decide ((clipR x).1 ≤ (clipR x).2))]) ∧ GR w w' := by
  obtain ⟨a, ha⟩ : ∃ a, max x.1 0 = a := ⟨_, rfl⟩
  obtain ⟨b, hb⟩ : ∃ b, min x.2 4294967295 = b := ⟨_, rfl⟩
  have E : clipR x = (a, b) := by unfold clipR; rw [ha, hb]
  rw [E]
  clear E
  go_enter Try.func29, Try.ntmps29
  go_wp2
  go_region
  all_goals go_wp2
  (try simp only [Exit.inBlock, Exit.then])
  refine bodyPost_ret (v := .tuple #[.agg #[.int .i64 a, .int .i64 b], .bool (decide (a ≤ b))]) ?_ rfl ⟨rfl, ?_⟩
  · rw [results_cell_tmp rfl]
    go_simp
  · exact ((((GR.refl w).alloc _).alloc _).alloc _).drew

set_option maxHeartbeats 1000000 in
theorem cmpF_any (x y : Pr) (W : World) : Calls Try.prog 38 #[.agg #[.int .i64 x.1, .int .i64 x.2], .agg #[.int .i64 y.1, .int .i64 y.2]] W fun e w' => e = .returned (.int .i64 (Lib.compareInt x.1 y.1)) ∧ ∃ q os', w' = grow (W.drewN q) os' := by
  have hcon := fun W' => AnyG.cmp_Compare_int Try.cmpInt x.1 y.1 W'
  change ∀ W', Calls Try.prog 39 _ _ _ at hcon
  generalize Lib.compareInt x.1 y.1 = r at hcon ⊢
  go_enter Try.func38, Try.ntmps38
  go_wp2_with (go_at_call 39; refine (hcon _).mono ?_; rintro e w' ⟨rfl, rfl⟩)
  go_ret
  exact ⟨rfl, 0, _, by rw [alloc_eq_grow, alloc_eq_grow, grow_grow]; rfl⟩

set_option maxHeartbeats 1000000 in
theorem single_any (n : Int) (w : World) : Calls Try.prog 32 #[.int .i64 n] w fun e w' => ∃ v, e = .returned v ∧ Row encP 2 w' v [(n, n)] ∧ Below w.heap.size w w' := by
  go_enter Try.func32, Try.ntmps32
  go_wp2
  go_ret
  refine ⟨_, rfl, row_block (cs := #[.int .i64 n, .int .i64 n]) (heap_alloc_new _ _) (flat_one (n, n)) rfl, ?_⟩
  exact (Below.refl _ w).alloc (Nat.le_refl _) _

set_option maxHeartbeats 1000000 in
theorem hasF_any (x : Pr) (n : Int) (b : Nat) (W : World) (hb : W.cell? ⟨b, 0, none⟩ = some (.int .i64 n)) : Calls Try.prog 34 #[.agg #[.int .i64 x.1, .int .i64 x.2], .pointer (some ⟨b, 0, none⟩)] W fun e w' => e = .returned (.bool (inP n x)) ∧ Below W.heap.size W w' := by
  have hb2 : (W.alloc (.cells #[.int .i64 x.1, .int .i64 x.2] 29)).cell? ⟨b, 0, none⟩ = some (.int .i64 n) := Lib.cell?_alloc_some _ hb
  clear hb
  unfold inP
  by_cases h1 : x.1 ≤ n
  · by_cases h2 : n ≤ x.2
    · go_enter Try.func34, Try.ntmps34
      go_wp2
      go_ret
      exact ⟨by simp [h1, h2], (Below.refl _ W).alloc (Nat.le_refl _) _⟩
    · go_enter Try.func34, Try.ntmps34
      go_wp2
      go_ret
      exact ⟨by simp [h2], (Below.refl _ W).alloc (Nat.le_refl _) _⟩
  · go_enter Try.func34, Try.ntmps34
    go_wp2
    go_ret
    exact ⟨by rw [decide_eq_false (by omega : ¬ x.1 ≤ n)]; simp, (Below.refl _ W).alloc (Nat.le_refl _) _⟩

set_option maxHeartbeats 1000000 in
theorem index_short (ao : Option Addr) (cap : Nat) (f : Value) (w : World) : Calls Try.prog 41 #[.slice ao 0 cap, f] w fun e w' => e = .returned (.int .i64 (-1)) ∧ w' = w := by
  go_enter Try.func41, Try.ntmps41
  go_wp2
  refine wp_loop_rounds 1 ?_
  rw [rounds_succ]
  go_wp2
  go_ret
  exact ⟨rfl, rfl⟩

set_option maxHeartbeats 1000000 in
theorem contains_short (ao : Option Addr) (cap : Nat) (f : Value) (w : World) : Calls Try.prog 33 #[.slice ao 0 cap, f] w fun e w' => e = .returned (.bool false) ∧ w' = w := by
  have C : Hid _ := index_short ao cap f w
  go_enter Try.func33, Try.ntmps33
  go_wp2_with (go_at_call 41; refine Calls.mono C.out ?_; rintro e w' ⟨rfl, rfl⟩)
  go_ret
  exact ⟨rfl, rfl⟩

theorem contains_any (v : Value) (l : List Pr) (n : Int) (b : Nat) (w : World) (h : Row encP 2 w v l) (hl : l.length ≤ 1000000) (hb : w.cell? ⟨b, 0, none⟩ = some (.int .i64 n)) (hlt : b < w.heap.size) :
    Calls Try.prog 33 #[v, .func (.func 34) #[] #[.pointer (some ⟨b, 0, none⟩)]] w fun e w' => e = .returned (.bool (l.any (inP n))) ∧ Below w.heap.size w w' := by
  obtain ⟨ao, cap, rfl, h1, h2, h3⟩ := h
  by_cases hne : l = []
  · subst hne
    refine (contains_short ao cap _ w).mono ?_
    rintro e w' ⟨rfl, rfl⟩
    exact ⟨rfl, Below.refl _ _⟩
  · obtain ⟨b', off, rfl, hb', hc⟩ := h3 hne
    have C := AnyQ.slices_ContainsFunc Try.containsRun 2 Try.isAgg29 Try.sizeOf29 encP encP_len (inP n) 34 #[.pointer (some ⟨b, 0, none⟩)] (enters_of Try.func34 (by kernel_rfl) rfl) b' off l.length cap l w
      (fun W x hB => (hasF_any x n b W ((hB.cell (p := ⟨b, 0, none⟩) hlt).trans hb)).mono fun e w' ⟨he, hb2⟩ => ⟨he, hB.trans (hb2.mono hB.size)⟩) (Nat.le_refl _) (by omega) hb' (fun j hj i u hi => ?_)
    · rw [List.take_length] at C
      exact C
    · have hi2 : i < 2 := by
        have := (List.getElem?_eq_some_iff.1 hi).1
        rwa [encP_len] at this
      rw [Nat.add_assoc, hc (j * 2 + i) (by omega), get_flatK _ _ _ _ (by simp; omega)]
      have e1 : (j * 2 + i) / 2 = j := by omega
      have e2 : (j * 2 + i) % 2 = i := by omega
      rw [e1, e2]
      have e3 : l.toArray[j]! = l[j]! := by simp
      rw [e3]
      have := List.getElem?_eq_some_iff.1 hi
      rw [getElem!_pos _ i this.1, this.2]

theorem any_in (l : List Pr) (n : Int) (h0 : 0 ≤ n) (h1 : n ≤ 4294967295) : l.any (inP n) = hasB l n := by
  unfold hasB
  rw [decide_eq_true h0, decide_eq_true h1]
  rfl

set_option maxHeartbeats 1000000 in
theorem has_any (v : Value) (l : List Pr) (n : Int) (w : World) (h : Row encP 2 w v l) (hl : l.length ≤ 1000000) :
    Calls Try.prog 20 #[v, .int .i64 n] w fun e w' => e = .returned (.bool (hasB l n)) ∧ Below w.heap.size w w' := by
  have B : Hid (Below w.heap.size w (w.alloc (.cells #[.int .i64 n] 3))) := (Below.refl _ w).alloc (Nat.le_refl _) _
  have C : Hid _ := contains_any v l n w.heap.size (w.alloc (.cells #[.int .i64 n] 3)) (h.below B.out) hl (by simp) (by simp)
  by_cases h0 : 0 ≤ n
  · by_cases h1 : n ≤ 4294967295
    · rw [any_in l n h0 h1] at C
      obtain ⟨f, hf⟩ : ∃ f, hasB l n = f := ⟨_, rfl⟩
      rw [hf] at C ⊢
      have hz : (w.alloc (.cells #[.int .i64 n] 3)).heap.size = w.heap.size + 1 := by simp
      clear h hf
      go_enter Try.func20, Try.ntmps20
      go_wp2_with (go_at_call 33; refine Calls.mono C.out ?_; rintro e w' ⟨rfl, hb⟩)
      all_goals
        go_ret
        exact ⟨rfl, B.out.trans (hb.mono (by omega))⟩
    · have e : hasB l n = false := hasB_no fun k => h1 k.2.1
      rw [e]
      clear h C e
      go_enter Try.func20, Try.ntmps20
      go_wp2
      go_ret
      exact ⟨rfl, B.out⟩
  · have e : hasB l n = false := hasB_no fun k => h0 k.1
    rw [e]
    clear h C e
    go_enter Try.func20, Try.ntmps20
    go_wp2
    go_ret
    exact ⟨rfl, B.out⟩

end Go.Proofs.Ytoigljefajbofaa
