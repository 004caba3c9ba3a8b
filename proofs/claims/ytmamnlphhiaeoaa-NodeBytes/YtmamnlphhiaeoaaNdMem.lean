/-
  Rows of entries, numbers and texts; a node in memory.
-/
import Derived.Test.YtmamnlphhiaeoaaEnCode
import Derived.Test.YtmamnlphhiaeoaaNd
import Derived.Deep.DrawnRows
namespace Go.Proofs.Ytmamnlphhiaeoaa
open Go.Shelf Go.RowKit Go.Lib Go.Sort

/-- A row of numbers. -/
def encI (n : Int) : List Value := [.int .i64 n]
theorem encI_len (n : Int) : (encI n).length = 1 := rfl
theorem encI_one (n : Int) : ∀ v ∈ encI n, v.oneCell' = true := fun v hv => by simp [encI] at hv; subst hv; rfl
theorem infoInt : (Try.prog.info? 3).map (fun i => (i.zero, i.size, i.bytes)) = some (some (.int .i64 0), 1, 8) := by kernel_rfl
abbrev OwnI (base : Nat) (W : World) (v : Value) (l : List Int) : Prop := W.ownsRow base 3 1 v l.length (flatK encI 1 l.toArray).toList

section
variable {α : Type} [Inhabited α] {enc : α → List Value} {k : Nat} {w w' : World} {v : Value} {l : List α}
theorem rowShape (h : Row enc k w v l) : ∃ ao c, v = .slice ao l.length c ∧ l.length ≤ c := by
  obtain ⟨ao, cap, rfl, h1, _⟩ := h
  exact ⟨ao, cap, rfl, h1⟩
theorem rowTo {B : Nat} (h : Row enc k w v l) (hb : Below B w w') (hB : w.heap.size ≤ B) : Row enc k w' v l := h.below (hb.mono hB)
theorem rowNil : Row enc k w (.slice none 0 0) ([] : List α) := (Own.nil (base := 0)).row
theorem rowPart (hk0 : 0 < k) {ao : Option Addr} {n c : Nat} (h : Row enc k w (.slice ao n c) l) (i j m : Nat) (hm : j = i + m) (hj : j ≤ l.length) (ao' : Option Addr) (hao : ∀ b off, ao = some ⟨b, off, none⟩ → m ≠ 0 → ao' = some ⟨b, off + i * k, none⟩) (c' : Nat) (hc : m ≤ c') (hz : ao' = none → c' = 0) :
    Row enc k w (.slice ao' m c') ((l.drop i).take m) := by
  obtain ⟨ao1, cap, e, h1, h2, h3⟩ := h
  cases e
  have hlen : ((l.drop i).take m).length = m := by simp; omega
  refine ⟨ao', c', by rw [hlen], by rw [hlen]; exact hc, hz, fun hne => ?_⟩
  have hm0 : m ≠ 0 := by intro e; subst e; simp at hne
  obtain ⟨b, off, e, hlt, hcell⟩ := h3 (by intro e; subst e; simp at hj; omega)
  refine ⟨b, off + i * k, hao b off e hm0, hlt, fun t ht => ?_⟩
  rw [hlen] at ht
  have hlk : i * k + t < l.length * k := by
    have h5 : i * k + m * k = j * k := by rw [hm, Nat.add_mul]
    have h6 : j * k ≤ l.length * k := Nat.mul_le_mul_right k hj
    omega
  have htk : t / k < m := (Nat.div_lt_iff_lt_mul hk0).2 ht
  rw [Nat.add_assoc, hcell (i * k + t) hlk, get_flatK _ _ _ _ (by simpa using hlk), get_flatK _ _ _ _ (by rw [List.size_toArray, hlen]; exact ht)]
  have e1 : (i * k + t) / k = i + t / k := by rw [Nat.mul_comm, Nat.mul_add_div hk0]
  have e2 : (i * k + t) % k = t % k := by rw [Nat.mul_comm, Nat.mul_add_mod]
  rw [e1, e2, getElem!_pos l.toArray (i + t / k) (by simp; omega), getElem!_pos ((l.drop i).take m).toArray (t / k) (by simp; omega)]
  simp
theorem rowPre (hk0 : 0 < k) {ao : Option Addr} {n c : Nat} (h : Row enc k w (.slice ao n c) l) (i : Nat) (hi : i ≤ l.length) : Row enc k w (.slice ao i c) (l.take i) := by
  have e := h
  obtain ⟨ao1, cap, e1, h1, h2, h3⟩ := e
  cases e1
  have := rowPart hk0 h 0 i i (by omega) hi ao (fun b off e _ => by rw [e]; simp) c (by omega) h2
  simpa using this
theorem rowSuf (hk0 : 0 < k) {ao : Option Addr} {n c : Nat} (h : Row enc k w (.slice ao n c) l) (i : Nat) (hi : i ≤ l.length) : Row enc k w (.slice (if c = i then ao else ao.map (·.add (i * k))) (n - i) (c - i)) (l.drop i) := by
  have e := h
  obtain ⟨ao1, cap, e1, h1, h2, h3⟩ := e
  cases e1
  have := rowPart hk0 h i l.length (l.length - i) (by omega) (Nat.le_refl _) (if c = i then ao else ao.map (·.add (i * k))) (fun b off e hm => by
    rw [if_neg (by omega), e]
    show some (Addr.add ⟨b, off, none⟩ (i * k)) = _
    rw [Go.WideShapes.add_plain]) (c - i) (by omega) (fun e => by
    by_cases c1 : c = i
    · omega
    · rw [if_neg c1] at e
      have : ao = none := by cases ao with
        | none => rfl
        | some a => simp at e
      have := h2 this
      omega)
  rwa [List.take_of_length_le (by simp)] at this
end

theorem rowI_at {w wr : World} {ao : Option Addr} {l : List Int} (h3 : l ≠ [] → ∃ b off, ao = some ⟨b, off, none⟩ ∧ b < w.heap.size ∧ CellsK encI 1 w b off l) (i : Nat) (hi : i < l.length) (hb : Below w.heap.size w wr) :
    ∃ b off, ao = some ⟨b, off, none⟩ ∧ b < w.heap.size ∧ wr.cell? ⟨b, off + i, none⟩ = some (.int .i64 l[i]!) := by
  obtain ⟨b, off, e, hlt, hc⟩ := h3 (by intro h; rw [h] at hi; simp at hi)
  refine ⟨b, off, e, hlt, ?_⟩
  rw [hb.cell (p := ⟨b, off + i, none⟩) hlt, hc i (by omega), get_flatK _ _ _ _ (by simp; omega), show i / 1 = i by omega, show i % 1 = 0 by omega]
  simp [encI]
theorem rowS_at {w wr : World} {ao : Option Addr} {l : List ByteArray} (h3 : l ≠ [] → ∃ b off, ao = some ⟨b, off, none⟩ ∧ b < w.heap.size ∧ CellsK encS 1 w b off l) (i : Nat) (hi : i < l.length) (hb : Below w.heap.size w wr) :
    ∃ b off, ao = some ⟨b, off, none⟩ ∧ b < w.heap.size ∧ wr.cell? ⟨b, off + i, none⟩ = some (.string l[i]!) := by
  obtain ⟨b, off, e, hlt, hc⟩ := h3 (by intro h; rw [h] at hi; simp at hi)
  refine ⟨b, off, e, hlt, ?_⟩
  rw [hb.cell (p := ⟨b, off + i, none⟩) hlt, hc i (by omega), get_flatK _ _ _ _ (by simp; omega), show i / 1 = i by omega, show i % 1 = 0 by omega]
  simp [encS]

theorem ownShape {base : Nat} {w : World} {e : TypeId} {k : Nat} {v : Value} {n : Nat} {xs : List Value} (h : w.ownsRow base e k v n xs) : ∃ ao c, v = .slice ao n c := by
  rcases h.2 with ⟨h, h2⟩ | ⟨g, cap, cur, h, _⟩
  · rw [h2]; exact ⟨_, _, h⟩
  · exact ⟨_, _, h⟩
theorem ownMono {base base' : Nat} {w : World} {e : TypeId} {k : Nat} {v : Value} {n : Nat} {xs : List Value} (h : w.ownsRow base e k v n xs) (hb : base' ≤ base) : w.ownsRow base' e k v n xs := by
  refine ⟨h.1, ?_⟩
  rcases h.2 with h2 | ⟨g, cap, cur, hv, hg, r⟩
  · exact Or.inl h2
  · exact Or.inr ⟨g, cap, cur, hv, Nat.le_trans hb hg, r⟩
theorem ownOther {base : Nat} {W : World} {e : TypeId} {k : Nat} {v : Value} {n : Nat} {xs : List Value} (h : W.ownsRow base e k v n xs) : ∀ r, v.ownBlock = some r → base ≤ r := by
  intro r hk
  rcases row_of_owns h with hr | ⟨r, hr, hle⟩
  · rw [hr] at hk; cases hk
  · rw [hr] at hk; cases hk; exact hle

/-- A row appended (E). -/
theorem run_appE {base : Nat} {w : World} {v u : Value} {l m : List En} (ty : TypeId) (h : OwnP base w v l) (hu : Row encP 2 w u m) (hl : l.length + m.length < 1000000) (hbase : base ≤ w.heap.size) :
    ∃ ao n c w', (Builtin.append_ #[22, 22] ty #[v, u]).run Try.prog w = .ok (.slice ao n c) w' ∧ OwnP base w' (.slice ao n c) (l ++ m) ∧ (∀ w0, Below base w0 w → Below base w0 w') := by
  obtain ⟨i0, hi, hz0, hz1, hz2⟩ := info_parts infoPair
  have ht := Try.underlying22
  obtain ⟨ao, cap, rfl, h1, h2, h3⟩ := hu
  cases ao with
  | none =>
    have hm : m = [] := by
      rcases List.eq_nil_or_concat m with e1 | ⟨m', y, e1⟩
      · exact e1
      · obtain ⟨b, off, e2, _⟩ := h3 (by rw [e1]; simp)
        cases e2
    subst hm
    have hc0 := h2 rfl
    subst hc0
    obtain ⟨av, cv, rfl⟩ := ownShape h
    exact ⟨_, _, _, w, run_append_owned_none (P := Try.prog) w base _ ty _ i0 2 ht hi _ _ _ h, by rw [List.append_nil]; exact h, fun _ hb => hb⟩
  | some ad =>
    obtain ⟨v', w', hr, g1, g2, _⟩ := run_append_own (P := Try.prog) w base 22 ty 56 i0 _ 2 32 ht hi hz0 hz1 hz2 rfl (by decide) v _ _ h ad m.length cap (flatK encP 2 m.toArray).toList (by simp) (fun j u hj => by
      obtain ⟨hj1, hj2⟩ := List.getElem?_eq_some_iff.1 hj
      have hj3 : j < m.length * 2 := by simpa using hj1
      obtain ⟨b, off, e2, _, hc⟩ := h3 (by intro e; rw [e] at hj3; simp at hj3)
      cases e2
      rw [Go.WideShapes.add_plain, hc j hj3, getElem!_pos _ j (by simpa using hj3), ← hj2]
      simp) (flatK_oneCell encP_one encP_len) (by unfold maxLen; omega) (by omega) hbase
    obtain ⟨av, cv, rfl⟩ := ownShape g1
    refine ⟨_, _, _, w', hr, ?_, fun w0 hb => hb.grown g2 hbase fun k hk => ownOther h k hk⟩
    show w'.ownsRow base 56 2 _ (l ++ m).length (flatK encP 2 (l ++ m).toArray).toList
    rw [List.length_append, flatK_append encP 2 encP_len]
    exact g1
theorem appE {ops : Array Oper} {rest : List Oper} {o : Oper} {a : Act} {Q : Exit → Act → World → Prop} {w : World} (hgd : o.guard = .none) (s x : Operand)
    (ho : o.op = .call { callee := .builtin .append, args := #[s, x], argTypes := #[22, 22] }) (base : Nat) (v : Value) (l : List En) (hs : a.eval s = v) (hown : OwnP base w v l)
    (u : Value) (m : List En) (hx : a.eval x = u) (hu : Row encP 2 w u m) (hl : l.length + m.length < 1000000) (hbase : base ≤ w.heap.size) (lm : List En) (hlm : l ++ m = lm)
    (h : ∀ ao n c w', OwnP base w' (.slice ao n c) lm → (∀ w0, Below base w0 w → Below base w0 w') → wpList Try.prog ops Q rest (a.put o.dst (.slice ao n c)) w') : wpList Try.prog ops Q (o :: rest) a w := by
  subst hlm
  refine wpList_plain hgd fun K hK' => ?_
  obtain ⟨ao, n, c, w', hrun, h1, h2⟩ := run_appE o.type hown hu hl hbase
  unfold Oper.wp
  simp [execOp, ho, resolve, invoke, builtin, hs, hx, hrun, Result.andThen]
  exact hK' _ _ (h ao n c w' h1 h2)
theorem stepE {ops : Array Oper} {o : Oper} {a : Act} {K : Act → World → Prop} {Q : Exit → Act → World → Prop} {E : Prop} {w : World} (hg : o.guard = none) (s x : Operand)
    (ho : o.op = .call { callee := .builtin .append, args := #[s, x], argTypes := #[22, 22] }) (base : Nat) (v : Value) (l : List En) (hs : a.eval s = v) (hown : OwnP base w v l)
    (u : Value) (m : List En) (hx : a.eval x = u) (hu : Row encP 2 w u m) (hl : l.length + m.length < 1000000) (hbase : base ≤ w.heap.size) (lm : List En) (hlm : l ++ m = lm)
    (h : ∀ ao n c w', OwnP base w' (.slice ao n c) lm → (∀ w0, Below base w0 w → Below base w0 w') → K (a.put o.dst (.slice ao n c)) w') :
    if Region.wanted o (yielded ops a.tmps) = true then Oper.wp Try.prog o a w K Q else E := by
  subst hlm
  have hw : Region.wanted o (yielded ops a.tmps) = true := by simp [Region.wanted, hg]
  rw [if_pos hw]
  obtain ⟨ao, n, c, w', hrun, h1, h2⟩ := run_appE o.type hown hu hl hbase
  unfold Oper.wp execOp
  simp only [ho, resolve, invoke, builtin, Sem.run_bind, Sem.run_pure, Result.andThen_ok, List.map_toArray, List.map_cons, List.map_nil, hs, hx, hrun]
  exact h ao n c w' h1 h2
theorem slUE : Try.prog.underlying 22 = some (.slice (Try.prog.elem 22)) := by kernel_rfl
theorem slZE (u : World) : (sizeOf (Try.prog.elem 22)).run Try.prog u = .ok 2 u := by kernel_rfl
theorem run_preE (ao : Option Addr) (n c k : Nat) (hk : k ≤ c) (u : World) : (Instr.slice 22 (.slice ao n c) none (some (.int .i64 (k : Int))) none).run Try.prog u = .ok (.slice ao k c) u := by
  rw [run_slice_h u 22 ao n c slUE .i64 k (by omega) (by omega), slZE]
  simp only [Result.andThen, sliced, Int.toNat_natCast]
  cases ao <;> simp [add0]
theorem run_sufE (ao : Option Addr) (n c k : Nat) (hk : k ≤ n) (u : World) : (Instr.slice 22 (.slice ao n c) (some (.int .i64 (k : Int))) none none).run Try.prog u = .ok (.slice (if c = k then ao else ao.map (·.add (k * 2))) (n - k) (c - k)) u := by
  rw [run_slice_l u 22 ao n c slUE .i64 k (by omega) (by omega), slZE]
  simp [Result.andThen, sliced]

/-- A row appended (I). -/
theorem run_appI {base : Nat} {w : World} {v u : Value} {l m : List Int} (ty : TypeId) (h : OwnI base w v l) (hu : Row encI 1 w u m) (hl : l.length + m.length < 1000000) (hbase : base ≤ w.heap.size) :
    ∃ ao n c w', (Builtin.append_ #[23, 23] ty #[v, u]).run Try.prog w = .ok (.slice ao n c) w' ∧ OwnI base w' (.slice ao n c) (l ++ m) ∧ (∀ w0, Below base w0 w → Below base w0 w') := by
  obtain ⟨i0, hi, hz0, hz1, hz2⟩ := info_parts infoInt
  have ht := Try.underlying23
  obtain ⟨ao, cap, rfl, h1, h2, h3⟩ := hu
  cases ao with
  | none =>
    have hm : m = [] := by
      rcases List.eq_nil_or_concat m with e1 | ⟨m', y, e1⟩
      · exact e1
      · obtain ⟨b, off, e2, _⟩ := h3 (by rw [e1]; simp)
        cases e2
    subst hm
    have hc0 := h2 rfl
    subst hc0
    obtain ⟨av, cv, rfl⟩ := ownShape h
    exact ⟨_, _, _, w, run_append_owned_none (P := Try.prog) w base _ ty _ i0 1 ht hi _ _ _ h, by rw [List.append_nil]; exact h, fun _ hb => hb⟩
  | some ad =>
    obtain ⟨v', w', hr, g1, g2, _⟩ := run_append_own (P := Try.prog) w base 23 ty 3 i0 _ 1 8 ht hi hz0 hz1 hz2 rfl (by decide) v _ _ h ad m.length cap (flatK encI 1 m.toArray).toList (by simp) (fun j u hj => by
      obtain ⟨hj1, hj2⟩ := List.getElem?_eq_some_iff.1 hj
      have hj3 : j < m.length * 1 := by simpa using hj1
      obtain ⟨b, off, e2, _, hc⟩ := h3 (by intro e; rw [e] at hj3; simp at hj3)
      cases e2
      rw [Go.WideShapes.add_plain, hc j hj3, getElem!_pos _ j (by simpa using hj3), ← hj2]
      simp) (flatK_oneCell encI_one encI_len) (by unfold maxLen; omega) (by omega) hbase
    obtain ⟨av, cv, rfl⟩ := ownShape g1
    refine ⟨_, _, _, w', hr, ?_, fun w0 hb => hb.grown g2 hbase fun k hk => ownOther h k hk⟩
    show w'.ownsRow base 3 1 _ (l ++ m).length (flatK encI 1 (l ++ m).toArray).toList
    rw [List.length_append, flatK_append encI 1 encI_len]
    exact g1
theorem appI {ops : Array Oper} {rest : List Oper} {o : Oper} {a : Act} {Q : Exit → Act → World → Prop} {w : World} (hgd : o.guard = .none) (s x : Operand)
    (ho : o.op = .call { callee := .builtin .append, args := #[s, x], argTypes := #[23, 23] }) (base : Nat) (v : Value) (l : List Int) (hs : a.eval s = v) (hown : OwnI base w v l)
    (u : Value) (m : List Int) (hx : a.eval x = u) (hu : Row encI 1 w u m) (hl : l.length + m.length < 1000000) (hbase : base ≤ w.heap.size) (lm : List Int) (hlm : l ++ m = lm)
    (h : ∀ ao n c w', OwnI base w' (.slice ao n c) lm → (∀ w0, Below base w0 w → Below base w0 w') → wpList Try.prog ops Q rest (a.put o.dst (.slice ao n c)) w') : wpList Try.prog ops Q (o :: rest) a w := by
  subst hlm
  refine wpList_plain hgd fun K hK' => ?_
  obtain ⟨ao, n, c, w', hrun, h1, h2⟩ := run_appI o.type hown hu hl hbase
  unfold Oper.wp
  simp [execOp, ho, resolve, invoke, builtin, hs, hx, hrun, Result.andThen]
  exact hK' _ _ (h ao n c w' h1 h2)
theorem stepI {ops : Array Oper} {o : Oper} {a : Act} {K : Act → World → Prop} {Q : Exit → Act → World → Prop} {E : Prop} {w : World} (hg : o.guard = none) (s x : Operand)
    (ho : o.op = .call { callee := .builtin .append, args := #[s, x], argTypes := #[23, 23] }) (base : Nat) (v : Value) (l : List Int) (hs : a.eval s = v) (hown : OwnI base w v l)
    (u : Value) (m : List Int) (hx : a.eval x = u) (hu : Row encI 1 w u m) (hl : l.length + m.length < 1000000) (hbase : base ≤ w.heap.size) (lm : List Int) (hlm : l ++ m = lm)
    (h : ∀ ao n c w', OwnI base w' (.slice ao n c) lm → (∀ w0, Below base w0 w → Below base w0 w') → K (a.put o.dst (.slice ao n c)) w') :
    if Region.wanted o (yielded ops a.tmps) = true then Oper.wp Try.prog o a w K Q else E := by
  subst hlm
  have hw : Region.wanted o (yielded ops a.tmps) = true := by simp [Region.wanted, hg]
  rw [if_pos hw]
  obtain ⟨ao, n, c, w', hrun, h1, h2⟩ := run_appI o.type hown hu hl hbase
  unfold Oper.wp execOp
  simp only [ho, resolve, invoke, builtin, Sem.run_bind, Sem.run_pure, Result.andThen_ok, List.map_toArray, List.map_cons, List.map_nil, hs, hx, hrun]
  exact h ao n c w' h1 h2
theorem slUI : Try.prog.underlying 23 = some (.slice (Try.prog.elem 23)) := by kernel_rfl
theorem slZI (u : World) : (sizeOf (Try.prog.elem 23)).run Try.prog u = .ok 1 u := by kernel_rfl
theorem run_preI (ao : Option Addr) (n c k : Nat) (hk : k ≤ c) (u : World) : (Instr.slice 23 (.slice ao n c) none (some (.int .i64 (k : Int))) none).run Try.prog u = .ok (.slice ao k c) u := by
  rw [run_slice_h u 23 ao n c slUI .i64 k (by omega) (by omega), slZI]
  simp only [Result.andThen, sliced, Int.toNat_natCast]
  cases ao <;> simp [add0]
theorem run_sufI (ao : Option Addr) (n c k : Nat) (hk : k ≤ n) (u : World) : (Instr.slice 23 (.slice ao n c) (some (.int .i64 (k : Int))) none none).run Try.prog u = .ok (.slice (if c = k then ao else ao.map (·.add (k * 1))) (n - k) (c - k)) u := by
  rw [run_slice_l u 23 ao n c slUI .i64 k (by omega) (by omega), slZI]
  simp [Result.andThen, sliced]

/-- A row appended (S). -/
theorem run_appS {base : Nat} {w : World} {v u : Value} {l m : List ByteArray} (ty : TypeId) (h : OwnS base w v l) (hu : Row encS 1 w u m) (hl : l.length + m.length < 1000000) (hbase : base ≤ w.heap.size) :
    ∃ ao n c w', (Builtin.append_ #[24, 24] ty #[v, u]).run Try.prog w = .ok (.slice ao n c) w' ∧ OwnS base w' (.slice ao n c) (l ++ m) ∧ (∀ w0, Below base w0 w → Below base w0 w') := by
  obtain ⟨i0, hi, hz0, hz1, hz2⟩ := info_parts infoStr
  have ht := Try.underlying24
  obtain ⟨ao, cap, rfl, h1, h2, h3⟩ := hu
  cases ao with
  | none =>
    have hm : m = [] := by
      rcases List.eq_nil_or_concat m with e1 | ⟨m', y, e1⟩
      · exact e1
      · obtain ⟨b, off, e2, _⟩ := h3 (by rw [e1]; simp)
        cases e2
    subst hm
    have hc0 := h2 rfl
    subst hc0
    obtain ⟨av, cv, rfl⟩ := ownShape h
    exact ⟨_, _, _, w, run_append_owned_none (P := Try.prog) w base _ ty _ i0 1 ht hi _ _ _ h, by rw [List.append_nil]; exact h, fun _ hb => hb⟩
  | some ad =>
    obtain ⟨v', w', hr, g1, g2, _⟩ := run_append_own (P := Try.prog) w base 24 ty 9 i0 _ 1 16 ht hi hz0 hz1 hz2 rfl (by decide) v _ _ h ad m.length cap (flatK encS 1 m.toArray).toList (by simp) (fun j u hj => by
      obtain ⟨hj1, hj2⟩ := List.getElem?_eq_some_iff.1 hj
      have hj3 : j < m.length * 1 := by simpa using hj1
      obtain ⟨b, off, e2, _, hc⟩ := h3 (by intro e; rw [e] at hj3; simp at hj3)
      cases e2
      rw [Go.WideShapes.add_plain, hc j hj3, getElem!_pos _ j (by simpa using hj3), ← hj2]
      simp) (flatK_oneCell encS_one encS_len) (by unfold maxLen; omega) (by omega) hbase
    obtain ⟨av, cv, rfl⟩ := ownShape g1
    refine ⟨_, _, _, w', hr, ?_, fun w0 hb => hb.grown g2 hbase fun k hk => ownOther h k hk⟩
    show w'.ownsRow base 9 1 _ (l ++ m).length (flatK encS 1 (l ++ m).toArray).toList
    rw [List.length_append, flatK_append encS 1 encS_len]
    exact g1
theorem appS {ops : Array Oper} {rest : List Oper} {o : Oper} {a : Act} {Q : Exit → Act → World → Prop} {w : World} (hgd : o.guard = .none) (s x : Operand)
    (ho : o.op = .call { callee := .builtin .append, args := #[s, x], argTypes := #[24, 24] }) (base : Nat) (v : Value) (l : List ByteArray) (hs : a.eval s = v) (hown : OwnS base w v l)
    (u : Value) (m : List ByteArray) (hx : a.eval x = u) (hu : Row encS 1 w u m) (hl : l.length + m.length < 1000000) (hbase : base ≤ w.heap.size) (lm : List ByteArray) (hlm : l ++ m = lm)
    (h : ∀ ao n c w', OwnS base w' (.slice ao n c) lm → (∀ w0, Below base w0 w → Below base w0 w') → wpList Try.prog ops Q rest (a.put o.dst (.slice ao n c)) w') : wpList Try.prog ops Q (o :: rest) a w := by
  subst hlm
  refine wpList_plain hgd fun K hK' => ?_
  obtain ⟨ao, n, c, w', hrun, h1, h2⟩ := run_appS o.type hown hu hl hbase
  unfold Oper.wp
  simp [execOp, ho, resolve, invoke, builtin, hs, hx, hrun, Result.andThen]
  exact hK' _ _ (h ao n c w' h1 h2)
theorem stepS {ops : Array Oper} {o : Oper} {a : Act} {K : Act → World → Prop} {Q : Exit → Act → World → Prop} {E : Prop} {w : World} (hg : o.guard = none) (s x : Operand)
    (ho : o.op = .call { callee := .builtin .append, args := #[s, x], argTypes := #[24, 24] }) (base : Nat) (v : Value) (l : List ByteArray) (hs : a.eval s = v) (hown : OwnS base w v l)
    (u : Value) (m : List ByteArray) (hx : a.eval x = u) (hu : Row encS 1 w u m) (hl : l.length + m.length < 1000000) (hbase : base ≤ w.heap.size) (lm : List ByteArray) (hlm : l ++ m = lm)
    (h : ∀ ao n c w', OwnS base w' (.slice ao n c) lm → (∀ w0, Below base w0 w → Below base w0 w') → K (a.put o.dst (.slice ao n c)) w') :
    if Region.wanted o (yielded ops a.tmps) = true then Oper.wp Try.prog o a w K Q else E := by
  subst hlm
  have hw : Region.wanted o (yielded ops a.tmps) = true := by simp [Region.wanted, hg]
  rw [if_pos hw]
  obtain ⟨ao, n, c, w', hrun, h1, h2⟩ := run_appS o.type hown hu hl hbase
  unfold Oper.wp execOp
  simp only [ho, resolve, invoke, builtin, Sem.run_bind, Sem.run_pure, Result.andThen_ok, List.map_toArray, List.map_cons, List.map_nil, hs, hx, hrun]
  exact h ao n c w' h1 h2
theorem slUS : Try.prog.underlying 24 = some (.slice (Try.prog.elem 24)) := by kernel_rfl
theorem slZS (u : World) : (sizeOf (Try.prog.elem 24)).run Try.prog u = .ok 1 u := by kernel_rfl
theorem run_preS (ao : Option Addr) (n c k : Nat) (hk : k ≤ c) (u : World) : (Instr.slice 24 (.slice ao n c) none (some (.int .i64 (k : Int))) none).run Try.prog u = .ok (.slice ao k c) u := by
  rw [run_slice_h u 24 ao n c slUS .i64 k (by omega) (by omega), slZS]
  simp only [Result.andThen, sliced, Int.toNat_natCast]
  cases ao <;> simp [add0]
theorem run_sufS (ao : Option Addr) (n c k : Nat) (hk : k ≤ n) (u : World) : (Instr.slice 24 (.slice ao n c) (some (.int .i64 (k : Int))) none none).run Try.prog u = .ok (.slice (if c = k then ao else ao.map (·.add (k * 1))) (n - k) (c - k)) u := by
  rw [run_slice_l u 24 ao n c slUS .i64 k (by omega) (by omega), slZS]
  simp [Result.andThen, sliced]

/-- A node in memory. -/
structure NdR (w : World) (ve vk vs : Value) (n : Nd) : Prop where
  e : Row encP 2 w ve n.es
  k : Row encI 1 w vk n.ks
  s : Row encS 1 w vs n.ss
theorem NdR.below {w w' : World} {ve vk vs : Value} {n : Nd} (h : NdR w ve vk vs n) (hb : Below w.heap.size w w') : NdR w' ve vk vs n := ⟨h.e.below hb, h.k.below hb, h.s.below hb⟩
theorem NdR.to {B : Nat} {w w' : World} {ve vk vs : Value} {n : Nd} (h : NdR w ve vk vs n) (hb : Below B w w') (hB : w.heap.size ≤ B) : NdR w' ve vk vs n := h.below (hb.mono hB)
theorem NdR.zero {w : World} : NdR w (.slice none 0 0) (.slice none 0 0) (.slice none 0 0) nd0 := ⟨rowNil, rowNil, rowNil⟩
/-- A node in memory newer than base. -/
structure NdO (base : Nat) (w : World) (ve vk vs : Value) (n : Nd) : Prop where
  e : OwnP base w ve n.es
  k : OwnI base w vk n.ks
  s : OwnS base w vs n.ss
theorem NdO.r {base : Nat} {w : World} {ve vk vs : Value} {n : Nd} (h : NdO base w ve vk vs n) : NdR w ve vk vs n := ⟨(own_of_owns (by decide) h.e).row, (own_of_owns (by decide) h.k).row, (own_of_owns (by decide) h.s).row⟩
theorem NdO.below {base : Nat} {w w' : World} {ve vk vs : Value} {n : Nd} (h : NdO base w ve vk vs n) (hb : Below w.heap.size w w') : NdO base w' ve vk vs n := ⟨ownsRow_below h.e hb, ownsRow_below h.k hb, ownsRow_below h.s hb⟩
theorem NdO.mono {base base' : Nat} {w : World} {ve vk vs : Value} {n : Nd} (h : NdO base w ve vk vs n) (hb : base' ≤ base) : NdO base' w ve vk vs n := ⟨ownMono h.e hb, ownMono h.k hb, ownMono h.s hb⟩
theorem OwnI.empty (base : Nat) (W : World) : OwnI base W (.slice none 0 0) [] := by unfold OwnI; simpa [flatK] using World.ownsRow_nil W base 3 1
theorem NdO.zero (base : Nat) (w : World) : NdO base w (.slice none 0 0) (.slice none 0 0) (.slice none 0 0) nd0 := ⟨OwnP.empty _ _, OwnI.empty _ _, OwnS.empty _ _⟩
/-- A node that is not great. -/
structure Sm (n : Nd) : Prop where
  e : n.es.length ≤ 1000
  k : n.ks.length ≤ 1000
  s : n.ss.length ≤ 1000
  ez : szL n.es ≤ 1000000
  sz : szK n.ss ≤ 1000000
/-- A node of not too many things. -/
structure SmL (n : Nd) : Prop where
  e : n.es.length ≤ 1000
  k : n.ks.length ≤ 1000
  s : n.ss.length ≤ 1000
theorem Sm.l {n : Nd} (h : Sm n) : SmL n := ⟨h.e, h.k, h.s⟩

end Go.Proofs.Ytmamnlphhiaeoaa
