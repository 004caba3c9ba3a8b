/-
  The walks of package treediff's stacks: their top, what is left without it; one step through two of them.
-/
import Derived.Test.YtljmkajpjjdnhaaGreatDoorTdWith
import Derived.Deep.AppendLies
namespace Go.Proofs.YtljmkajpjjdnhaaGreatDoor.N
open Go.Shelf Go.RowKit Go.Lib Go.Sort
set_option linter.unusedVariables false
set_option linter.unusedSectionVars false
variable [DecidableEq Dl] [Inhabited Dl] [Inhabited Th]

section
variable {ops : Array Oper} {o : Oper} {a : Act} {K : Act → World → Prop} {Q : Exit → Act → World → Prop} {E : Prop} {B : Nat} {w0 w : World} {l : List Res} {P : Program} {e t : TypeId} {k n bytes r c : Nat} {z : Value} {cs news : List Value} {s x : Operand}
/-- append of one thing, as one step of a region that draws its order. -/
theorem stepK (hg : o.guard = none) (ho : o.op = .call { callee := .builtin .append, args := #[s, x], argTypes := #[t, t] }) (hinf : (P.info? e).map (fun i => (i.zero, i.size, i.bytes)) = some (some z, k, bytes)) (ht : P.underlying t = some (.slice e)) (hz : z.cells.size = k) (hk : 0 < k) (hby : bytes ≤ 1000)
    (v : Value) (hs : a.eval s = v) (h : Sep B w0 w (RowK e k v n cs :: l)) (hx : a.eval x = .slice (some ⟨r, 0, none⟩) 1 c) (hnews : ∀ j u, news[j]? = some u → w.cell? ((⟨r, 0, none⟩ : Addr).add j) = some u) (hlen : news.length = k) (h1 : ∀ u ∈ news, u.oneCell' = true) (hn : n < 1000000)
    (hK : ∀ ao c' w', Sep B w0 w' (RowK e k (.slice ao (n + 1) c') (n + 1) (cs ++ news) :: l) → K (a.put o.dst (.slice ao (n + 1) c')) w') :
    if Region.wanted o (yielded ops a.tmps) = true then Oper.wp P o a w K Q else E := by
  have hw : Region.wanted o (yielded ops a.tmps) = true := by simp [Region.wanted, hg]
  rw [if_pos hw]
  obtain ⟨i0, hi, hz0, hz1, hz2⟩ := info_parts hinf
  obtain ⟨v', w', hr, h2, h3, h4, h5⟩ := run_append_own_at (P := P) w 0 t o.type e i0 z k bytes ht hi hz0 hz1 hz2 hz hk v n cs h.rowK ⟨r, 0, none⟩ 1 c news (by omega) hnews h1 (by unfold maxLen; omega) (Nat.le_trans (Nat.mul_le_mul (show n + 1 ≤ 1000000 by omega) hby) (by decide)) (Nat.zero_le _)
  unfold Oper.wp execOp
  simp only [ho, resolve, invoke, builtin, Sem.run_bind, Sem.run_pure, Result.andThen_ok, List.map_toArray, List.map_cons, List.map_nil, hs, hx, hr]
  obtain ⟨ao', n', c', rfl⟩ : ∃ ao n c, v' = .slice ao n c := by
    rcases h2.2 with ⟨h, _⟩ | ⟨g, cap, cur, h, _⟩
    · exact ⟨_, _, _, h⟩
    · exact ⟨_, _, _, h⟩
  obtain rfl : n' = n + 1 := by
    rcases h2.2 with ⟨_, h⟩ | ⟨g, cap, cur, h, _⟩
    · omega
    · cases h; rfl
  exact hK _ _ _ (appendedK h h2 h3 h5)
end

abbrev eV (k v : ByteArray) : Value := .agg #[.string k, .string ⟨#[]⟩, .int .i64 0, .int .i64 0, .string v]
abbrev eO (k v : ByteArray) : Obj := .cells #[.string k, .string ⟨#[]⟩, .int .i64 0, .int .i64 0, .string v] 51 (0, 0)
/-- A stack of entries: the first one at its end. -/
def StE (v : Value) (a : List En) : Res := StR v (a.map tE).reverse
theorem good_ste (v : Value) (a : List En) : Good (StE v a) := good_st _ _
theorem hasB_all (k : ByteArray) : hasB e0 e0 k = true := by
  have h : ltK k e0 = false := by
    unfold ltK
    rw [show e0.toList = [] from by simp [e0]]
    cases k.toList <;> rfl
  simp [hasB, h]
theorem thL_all (es : List En) (n : Int) : thL ⟨e0, e0, n, 0, e0⟩ es = (es.map tE).reverse := by
  unfold thL
  rw [List.filter_eq_self.2 (fun x _ => hasB_all x.1), List.map_reverse]

section
variable {B : Nat} {w0 w w' : World} {l : List Res}
set_option maxRecDepth 100000 in
theorem isPage_c (k v : ByteArray) (w : World) : Calls Tryz.prog 45 #[eV k v] w fun e w' => e = .returned (.bool false) ∧ w.alloc (eO k v) = w' := by
  go_enter Tryz.func45, Tryz.ntmps45
  go_wp2
  go_ret
  exact ⟨rfl, rfl⟩
set_option maxRecDepth 100000 in
set_option maxHeartbeats 1000000 in
theorem ahead_c (k v k' v' : ByteArray) (w : World) : Calls Tryz.prog 47 #[eV k v, eV k' v'] w fun e w' => e = .returned (.bool (ltK k k')) ∧ Below w.heap.size w w' := by
  have C : Hid (∀ u, _) := fun u => isPage_c k v u
  have HB : Hid (Below w.heap.size w (((w.alloc (eO k v)).alloc (eO k' v')).alloc (eO k v))) := (((Below.refl _ _).alloc (Nat.le_refl _) _).alloc (by simp) _).alloc (by simp; omega) _
  go_enter Tryz.func47, Tryz.ntmps47
  go_wp2_with (go_at_call 45; refine Calls.mono (C.out _) ?_; rintro e w1 ⟨rfl, rfl⟩)
  go_ret
  exact ⟨rfl, HB.out⟩

theorem stU : Tryz.prog.underlying 46 = some (.slice (Tryz.prog.elem 46)) := by kernel_rfl
theorem stZ (u : World) : (sizeOf (Tryz.prog.elem 46)).run Tryz.prog u = .ok 5 u := by kernel_rfl
theorem runRest (ao : Option Addr) (n c : Nat) (hk : n + 1 ≤ c) (u : World) : (Instr.slice 46 (.slice ao (n + 1) c) none (some (.int .i64 (n : Int))) none).run Tryz.prog u = .ok (.slice ao n c) u := by
  rw [run_slice_h u 46 ao (n + 1) c stU .i64 n (by omega) (by omega), stZ]
  simp only [Result.andThen, sliced, Int.toNat_natCast]
  cases ao <;> simp [add0]
set_option maxRecDepth 100000 in
theorem rest_c (ao : Option Addr) (n c : Nat) (hk : n + 1 ≤ c) (hn : n ≤ 1000000) (w : World) : Calls Tryz.prog 46 #[.slice ao (n + 1) c] w fun e w' => e = .returned (.slice ao n c) ∧ w = w' := by
  have R := fun u => runRest ao n c hk u
  have e1 : wrap64 ((n : Int) + 1 - 1) = (n : Int) := by unfold wrap64; omega
  go_enter Tryz.func46, Tryz.ntmps46
  go_wp2
  go_ret
  exact ⟨rfl, rfl⟩

theorem resCT {fn : Func} {p q : Tmp} {ty : TypeId} (h : fn.results = #[.cell p ty, .tmp q]) (tmps : Array Value) (P : Program) (w : World) :
    (results fn tmps).run P w = ((asAddr (tmps.getD p undef)).run P w).andThen fun a w₁ => ((loadVar ty a).run P w₁).andThen fun x w₂ => .ok (.tuple #[x, tmps.getD q undef]) w₂ := by
  simp only [results, h]
  simp [Sem.run_bind, Result.andThen]
theorem steCons (v : Value) (x : En) (a : List En) : StE v (x :: a) = RowK 51 5 v (a.length + 1) ((flatK encT 5 (a.map tE).reverse.toArray).toList ++ encT (tE x)) := by
  unfold StE StR
  rw [List.map_cons, List.reverse_cons, flatK_snoc encT 5 encT_len]
  simp
theorem steFlat (a : List En) : (flatK encT 5 (a.map tE).reverse.toArray).toList.length = a.length * 5 := by simp
/-- The top's cells; what is left without it. -/
theorem steTop {v : Value} {x : En} {a : List En} (h : Sep B w0 w (StE v (x :: a) :: l)) : ∃ g c, v = .slice (some ⟨g, 0, none⟩) (a.length + 1) c ∧ a.length + 1 ≤ c ∧ g < w.heap.size ∧ (∀ u, Below w.heap.size w u → u.cell? ⟨g, a.length * 5, none⟩ = some (.string x.1) ∧ u.cell? ⟨g, a.length * 5 + 1, none⟩ = some (.string ⟨#[]⟩) ∧ u.cell? ⟨g, a.length * 5 + 2, none⟩ = some (.int .i64 0) ∧ u.cell? ⟨g, a.length * 5 + 3, none⟩ = some (.int .i64 0) ∧ u.cell? ⟨g, a.length * 5 + 4, none⟩ = some (.string x.2)) ∧ Sep B w0 w (StE (.slice (some ⟨g, 0, none⟩) a.length c) a :: l) := by
  rw [steCons] at h
  have hl := steFlat a
  obtain ⟨g, c, rfl, hc, hg, hcell⟩ := Sep.rowKcell h (by rw [List.length_append, encT_len]; omega)
  have at' : ∀ j, j < 5 → w.cell? ⟨g, a.length * 5 + j, none⟩ = (encT (tE x))[j]? := fun j hj => by
    rw [hcell _ (by rw [List.length_append, encT_len, hl]; omega), List.getElem?_append_right (by omega), hl, Nat.add_sub_cancel_left]
  refine ⟨g, c, rfl, hc, hg, fun u hb => ?_, ?_⟩
  · refine ⟨?_, ?_, ?_, ?_, ?_⟩
    · exact (hb.cell (p := ⟨g, a.length * 5, none⟩) hg).trans (at' 0 (by omega))
    · exact (hb.cell (p := ⟨g, a.length * 5 + 1, none⟩) hg).trans (at' 1 (by omega))
    · exact (hb.cell (p := ⟨g, a.length * 5 + 2, none⟩) hg).trans (at' 2 (by omega))
    · exact (hb.cell (p := ⟨g, a.length * 5 + 3, none⟩) hg).trans (at' 3 (by omega))
    · exact (hb.cell (p := ⟨g, a.length * 5 + 4, none⟩) hg).trans (at' 4 (by omega))
  · have h2 := preK h (Nat.le_succ a.length)
    rw [List.take_append_of_le_length (by omega), List.take_of_length_le (by omega)] at h2
    unfold StE StR
    rw [List.length_reverse, List.length_map]
    exact h2
theorem steNil {v : Value} (h : Sep B w0 w (StE v [] :: l)) : ∃ ao c, v = .slice ao 0 c := Sep.rowKshape (n := 0) h

set_option maxRecDepth 100000 in
set_option maxHeartbeats 1000000 in
theorem top_none (ao : Option Addr) (c : Nat) (w : World) : Calls Tryz.prog 42 #[.slice ao 0 c] w fun e w' => e = .returned (.tuple #[eV ⟨#[]⟩ ⟨#[]⟩, .bool false]) ∧ Below w.heap.size w w' := by
  have HB : Hid (Below w.heap.size w (w.alloc (eO ⟨#[]⟩ ⟨#[]⟩))) := (Below.refl _ _).alloc (Nat.le_refl _) _
  go_enter Tryz.func42, Tryz.ntmps42
  go_wp2
  refine bodyPost_ret ?_ rfl ⟨rfl, HB.out⟩
  rw [resCT rfl]
  simp [go_sem]
set_option maxRecDepth 100000 in
set_option maxHeartbeats 1000000 in
theorem top_some {v : Value} {x : En} {a : List En} (hl : a.length ≤ 1000000) (h : Sep B w0 w (StE v (x :: a) :: l)) : Calls Tryz.prog 42 #[v] w fun e w' => e = .returned (.tuple #[eV x.1 x.2, .bool true]) ∧ Below w.heap.size w w' := by
  obtain ⟨g, c, rfl, hc, hg, hcell, _⟩ := steTop h
  have e1 : wrap64 ((a.length : Int) + 1 - 1) = (a.length : Int) := by unfold wrap64; omega
  have hlt : (a.length : Int) < (a.length : Int) + 1 := by omega
  have hne : ((a.length : Int) + 1 == 0) = false := by simp; omega
  obtain ⟨x0, x1, x2, x3, x4⟩ := hcell w (Below.refl _ _)
  have HB : Hid (Below w.heap.size w (w.alloc (eO x.1 x.2))) := (Below.refl _ _).alloc (Nat.le_refl _) _
  clear h hcell
  go_enter Tryz.func42, Tryz.ntmps42
  go_wp2
  refine bodyPost_ret ?_ rfl ⟨rfl, HB.out⟩
  rw [resCT rfl]
  simp [go_sem]
end
end Go.Proofs.YtljmkajpjjdnhaaGreatDoor.N
