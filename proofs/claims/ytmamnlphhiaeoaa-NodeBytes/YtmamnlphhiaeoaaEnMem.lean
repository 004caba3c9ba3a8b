/-
  Rows of entries in memory: a slice that can be read, one of the call's own, append at them, the comparison of two entries.
-/
import Derived.Shelf.GgSortFunc.RowK
import Derived.Shelf.SlicesE.Kit
import Derived.Shelf.SlSortCmp.QuietGrown
import Derived.Lib.SliceRun
import Derived.Laws.AppendOwnNone
import Derived.WalkKit
import Derived.WalkSpells
import Derived.WalkLawsBesides
import Derived.Deep.RegionHeld3
import Derived.Test.YtmamnlphhiaeoaaProg
import Derived.Test.YtmamnlphhiaeoaaEn2
namespace Go.Proofs.Ytmamnlphhiaeoaa
open Go.Shelf Go.RowKit Go.Lib Go.Sort

def encP (x : En) : List Value := [.string x.1, .string x.2]

/-- Draws and new blocks alone. -/
def GR (w w' : World) : Prop := ∃ q os', w' = grow (w.drewN q) os'

theorem GR.refl (w : World) : GR w w := ⟨0, #[], by rw [grow_empty]; rfl⟩

theorem GR.drew {w w' : World} (h : GR w w') : GR w w'.drew := by
  obtain ⟨q, os, rfl⟩ := h
  exact ⟨q + 1, os, rfl⟩

theorem GR.alloc {w w' : World} (h : GR w w') (o : Obj) : GR w (w'.alloc o) := by
  obtain ⟨q, os, rfl⟩ := h
  exact ⟨q, os ++ #[o], by rw [alloc_eq_grow, grow_grow]⟩

theorem GR.trans {u v w : World} (h : GR u v) (k : GR v w) : GR u w := by
  obtain ⟨q, os, rfl⟩ := h
  obtain ⟨p, os', rfl⟩ := k
  exact ⟨q + p, os ++ os', by show grow (grow ((u.drewN q).drewN p) os) os' = _; rw [grow_grow, World.drewN_drewN]⟩

theorem GR.below {w w' : World} (h : GR w w') : Below w.heap.size w w' := by
  obtain ⟨q, os, rfl⟩ := h
  exact ⟨rfl, rfl, rfl, by rw [size_grow]; exact Nat.le_add_right _ _, fun k hk => heap_grow_old _ _ (by simpa using hk)⟩

theorem new0 (W : World) (x y : Value) (t : TypeId) (n : Nat) (h : n = W.heap.size) : (W.alloc (.cells #[x, y] t)).cell? ⟨n, 0, none⟩ = some x := by subst h; simp

theorem new1 (W : World) (x y : Value) (t : TypeId) (n : Nat) (h : n = W.heap.size) : (W.alloc (.cells #[x, y] t)).cell? ⟨n, 1, none⟩ = some y := by subst h; simp

section
variable {α : Type} [Inhabited α]

def CellsK (enc : α → List Value) (k : Nat) (w : World) (b off : Nat) (l : List α) : Prop := ∀ t, t < l.length * k → w.cell? ⟨b, off + t, none⟩ = some (flatK enc k l.toArray)[t]!

/-- A slice that can be read. -/
def Row (enc : α → List Value) (k : Nat) (w : World) (v : Value) (l : List α) : Prop :=
  ∃ ao cap, v = .slice ao l.length cap ∧ l.length ≤ cap ∧ (ao = none → cap = 0) ∧ (l ≠ [] → ∃ b off, ao = some ⟨b, off, none⟩ ∧ b < w.heap.size ∧ CellsK enc k w b off l)

/-- A slice in memory newer than 'base', that can be written. -/
def Own (enc : α → List Value) (k base : Nat) (w : World) (v : Value) (l : List α) : Prop :=
  ∃ ao cap, v = .slice ao l.length cap ∧ l.length ≤ cap ∧ (ao = none → cap = 0) ∧ (l ≠ [] → ∃ b off, ao = some ⟨b, off, none⟩ ∧ base ≤ b ∧ b < w.heap.size ∧ HoldsK enc k w b off l.toArray)

variable {enc : α → List Value} {k base : Nat} {w w' : World} {v : Value} {l : List α}

theorem cells_of_holds {b off : Nat} (h : HoldsK enc k w b off l.toArray) : CellsK enc k w b off l := fun t ht => (h t (by simpa using ht)).1

theorem Own.row (h : Own enc k base w v l) : Row enc k w v l := by
  obtain ⟨ao, cap, e, h1, h2, h3⟩ := h
  refine ⟨ao, cap, e, h1, h2, fun hne => ?_⟩
  obtain ⟨b, off, e2, _, hb, hH⟩ := h3 hne
  exact ⟨b, off, e2, hb, cells_of_holds hH⟩

theorem Row.below (h : Row enc k w v l) (hb : Below w.heap.size w w') : Row enc k w' v l := by
  obtain ⟨ao, cap, e, h1, h2, h3⟩ := h
  refine ⟨ao, cap, e, h1, h2, fun hne => ?_⟩
  obtain ⟨b, off, e2, hlt, hH⟩ := h3 hne
  exact ⟨b, off, e2, Nat.lt_of_lt_of_le hlt hb.size, fun t ht => (hb.cell (p := ⟨b, off + t, none⟩) hlt).trans (hH t ht)⟩

theorem Own.below (h : Own enc k base w v l) (hb : Below w.heap.size w w') : Own enc k base w' v l := by
  obtain ⟨ao, cap, e, h1, h2, h3⟩ := h
  refine ⟨ao, cap, e, h1, h2, fun hne => ?_⟩
  obtain ⟨b, off, e2, hba, hlt, hH⟩ := h3 hne
  exact ⟨b, off, e2, hba, Nat.lt_of_lt_of_le hlt hb.size, fun t ht => ⟨(hb.cell (p := ⟨b, off + t, none⟩) hlt).trans (hH t ht).1, (hb.frozen (p := ⟨b, off + t, none⟩) hlt).trans (hH t ht).2⟩⟩

theorem Own.mono {base' : Nat} (h : Own enc k base w v l) (hb : base' ≤ base) : Own enc k base' w v l := by
  obtain ⟨ao, cap, e, h1, h2, h3⟩ := h
  refine ⟨ao, cap, e, h1, h2, fun hne => ?_⟩
  obtain ⟨b, off, e2, hba, r⟩ := h3 hne
  exact ⟨b, off, e2, Nat.le_trans hb hba, r⟩

theorem Own.nil : Own enc k base w (.slice none 0 0) ([] : List α) := ⟨none, 0, rfl, Nat.le_refl _, fun _ => rfl, fun h => absurd rfl h⟩

/-- What append's laws own. -/
theorem holds_of_owns {e : TypeId} {g n : Nat} {cur : Array Value} (hb : w.heap[g]? = some (.cells cur e (0, 0))) (hn : l.length = n) (hs : n * k ≤ cur.size) (ht : cur.toList.take (n * k) = (flatK enc k l.toArray).toList) : HoldsK enc k w g 0 l.toArray := by
  intro t htt
  have ht' : t < n * k := by rw [← hn]; simpa using htt
  refine ⟨?_, by simp [World.frozen?, hb]⟩
  have h1 : (cur.toList.take (n * k))[t]? = (flatK enc k l.toArray).toList[t]? := by rw [ht]
  rw [List.getElem?_take_of_lt ht', List.getElem?_eq_getElem (by simpa using (by omega : t < cur.size)), List.getElem?_eq_getElem (by rw [Array.length_toList]; exact htt)] at h1
  simp only [World.cell?, hb, Nat.zero_add]
  rw [getElem!_pos _ t htt]
  have h2 := Option.some.inj h1
  simp only [Array.getElem_toList] at h2
  rw [Array.getElem?_eq_getElem (by omega), h2]
  rfl

theorem own_of_owns {e : TypeId} {n : Nat} (hk : 0 < k) (h : w.ownsRow base e k v n (flatK enc k l.toArray).toList) : Own enc k base w v l := by
  obtain ⟨h0, h1⟩ := h
  have hn : l.length = n := by
    have : l.length * k = n * k := by simpa using h0
    exact Nat.eq_of_mul_eq_mul_right hk this
  rcases h1 with ⟨rfl, rfl⟩ | ⟨g, cap, cur, rfl, hb, hh, hc, hm, hs, ht⟩
  · obtain rfl : l = [] := List.length_eq_zero_iff.1 hn
    exact Own.nil
  · subst hn
    refine ⟨some ⟨g, 0, none⟩, cap, rfl, hc, (fun h => by cases h), fun hne => ⟨g, 0, rfl, hb, (Array.getElem?_eq_some_iff.1 hh).1, holds_of_owns hh rfl (by rw [hs]; exact Nat.mul_le_mul_right k hc) ht⟩⟩

theorem flatK_oneCell (h1 : ∀ x, ∀ v ∈ enc x, v.oneCell' = true) (hk : ∀ x, (enc x).length = k) : ∀ u ∈ (flatK enc k l.toArray).toList, u.oneCell' = true := fun u hu => by
  obtain ⟨t, ht, rfl⟩ := List.getElem_of_mem hu
  have ht' : t < l.length * k := by simpa using ht
  have hk0 : 0 < k := by
    rcases Nat.eq_zero_or_pos k with h | h
    · subst h; omega
    · exact h
  have e := get_flatK enc k l.toArray t (by simpa using ht')
  rw [getElem!_pos _ t (by simpa using ht')] at e
  rw [Array.getElem_toList, e]
  refine h1 l.toArray[t / k]! _ ?_
  rw [getElem!_pos (enc l.toArray[t / k]!) (t % k) (by rw [hk]; exact Nat.mod_lt _ hk0)]
  exact List.getElem_mem _

end

theorem encP_len (x : En) : (encP x).length = 2 := rfl

theorem encP_one (x : En) : ∀ v ∈ encP x, v.oneCell' = true := fun v hv => by simp [encP] at hv; rcases hv with rfl | rfl <;> rfl

theorem infoPair : (Try.prog.info? 56).map (fun i => (i.zero, i.size, i.bytes)) = some (some (.agg #[.string ⟨#[]⟩, .string ⟨#[]⟩]), 2, 32) := by kernel_rfl

section
variable {α : Type} [Inhabited α]

theorem bang_list (d : Array α) (i : Nat) : d[i]! = d.toList[i]! := by
  by_cases h : i < d.size
  · rw [getElem!_pos d i h, getElem!_pos d.toList i (by simpa using h)]; simp
  · rw [getElem!_neg d i h, getElem!_neg d.toList i (by simpa using h)]

theorem list_bang_ext {l l' : List α} (hs : l.length = l'.length) (h : ∀ i, i < l.length → l[i]! = l'[i]!) : l = l' := by
  apply List.ext_getElem hs
  intro i h1 h2
  have := h i h1
  rwa [getElem!_pos l i h1, getElem!_pos l' i h2] at this

theorem app_left (l r : List α) (i : Nat) (h : i < l.length) : (l ++ r)[i]! = l[i]! := by
  rw [getElem!_pos l i h, getElem!_pos (l ++ r) i (by simp; omega)]
  exact List.getElem_append_left h

theorem app_right (l r : List α) (i : Nat) : (l ++ r)[l.length + i]! = r[i]! := by
  by_cases h : i < r.length
  · rw [getElem!_pos r i h, getElem!_pos (l ++ r) _ (by simp; omega)]
    simp
  · rw [getElem!_neg r i h, getElem!_neg (l ++ r) _ (by simp; omega)]

theorem ownsRow_grown {W : World} {base : Nat} {e : TypeId} {k : Nat} {v : Value} {n : Nat} {xs : List Value} (h : W.ownsRow base e k v n xs) (m : Nat) (os : Array Obj) : (grow (W.drewN m) os).ownsRow base e k v n xs := by
  obtain ⟨h1, h2⟩ := h
  refine ⟨h1, ?_⟩
  rcases h2 with h2 | ⟨g, cap, cur, hv, hg, hh, r⟩
  · exact Or.inl h2
  · exact Or.inr ⟨g, cap, cur, hv, hg, by rw [heap_grow_old _ _ (by exact (Array.getElem?_eq_some_iff.1 hh).1)]; exact hh, r⟩

theorem flatK_snoc (enc : α → List Value) (k : Nat) (hk : ∀ x, (enc x).length = k) (l : List α) (x : α) : (flatK enc k (l ++ [x]).toArray).toList = (flatK enc k l.toArray).toList ++ enc x := by
  apply list_bang_ext
  · simp [hk, Nat.add_mul]
  · intro t ht
    have ht' : t < (l.length + 1) * k := by simpa using ht
    have hk0 : 0 < k := by
      rcases Nat.eq_zero_or_pos k with h | h
      · subst h; omega
      · exact h
    rw [← bang_list (flatK enc k (l ++ [x]).toArray) t, get_flatK _ _ _ _ (by simpa using ht')]
    by_cases c : t < l.length * k
    · rw [app_left _ _ _ (by simpa using c), ← bang_list (flatK enc k l.toArray) t, get_flatK _ _ _ _ (by simpa using c)]
      have : t / k < l.length := (Nat.div_lt_iff_lt_mul hk0).2 c
      congr 2
      rw [getElem!_pos _ _ (by simp; omega), getElem!_pos _ _ (by simpa using this)]
      simp [this]
    · obtain ⟨s, rfl⟩ : ∃ s, t = (flatK enc k l.toArray).toList.length + s := ⟨t - l.length * k, by simp; omega⟩
      rw [app_right]
      have hs : s < k := by
        rw [Nat.add_mul, Nat.one_mul] at ht'
        simp at ht'
        omega
      have e1 : ((flatK enc k l.toArray).toList.length + s) / k = l.length := by
        rw [Array.length_toList, size_flatK, List.size_toArray, Nat.mul_comm, Nat.mul_add_div hk0, Nat.div_eq_of_lt hs, Nat.add_zero]
      have e2 : ((flatK enc k l.toArray).toList.length + s) % k = s := by
        rw [Array.length_toList, size_flatK, List.size_toArray, Nat.mul_comm, Nat.mul_add_mod, Nat.mod_eq_of_lt hs]
      rw [e1, e2, getElem!_pos (l ++ [x]).toArray l.length (by simp)]
      simp

end

theorem row_of_owns {W : World} {base : Nat} {e : TypeId} {k : Nat} {v : Value} {n : Nat} {xs : List Value} (h : W.ownsRow base e k v n xs) : v.ownBlock = none ∨ ∃ r, v.ownBlock = some r ∧ base ≤ r := by
  rcases h.2 with ⟨rfl, _⟩ | ⟨g, cap, cur, rfl, hg, _⟩
  · exact Or.inl rfl
  · exact Or.inr ⟨g, rfl, hg⟩

theorem str_eq (a b : ByteArray) : (a.toList == b.toList) = decide (a = b) := by
  by_cases h : a = b
  · subst h; simp
  · rw [decide_eq_false h]
    simp only [beq_eq_false_iff_ne, ne_eq]
    exact fun e => h (baL_inj e)

theorem equalPair (a b c d : ByteArray) (w : World) : (Op.equalIn 10000 56 (.agg #[.string a, .string b]) (.agg #[.string c, .string d])).run Try.prog w = .ok (decide ((a, b) = (c, d))) w := by
  have u3 := Try.underlying9
  have a3 := Try.isAgg9
  have z3 := Try.sizeOf9
  have hS : Try.prog.underlying 56 = some (.struct (Try.prog.fieldsOf 56)) := by kernel_rfl
  have hp : Try.prog.stoodInHeld 56 = false := by kernel_rfl
  rw [show (10000 : Nat) = 9999 + 1 from rfl, run_equalIn_agg w 9999 56 _ _ hS hp]
  simp only [Program.fieldsOf, Try.underlying56]
  go_simp
  have t1 : ∀ {x y : ByteArray}, (x.toList = y.toList) = (x = y) := fun {x y} => propext ⟨baL_inj, fun h => by rw [h]⟩
  by_cases h1 : a = c <;> by_cases h2 : b = d <;> simp [h1, h2, t1]

theorem eqlPair (x y : En) (w : World) : Sem.run Try.prog (binOp .eql 56 (.agg (encP x).toArray) (.agg (encP y).toArray)) w = .ok (.bool (decide (x = y))) w := by
  obtain ⟨a, b⟩ := x
  obtain ⟨c, d⟩ := y
  simp only [encP]
  rw [run_eql_struct, equalPair]
  rfl

theorem neqPair (x y : En) (w : World) : Sem.run Try.prog (binOp .neq 56 (.agg (encP x).toArray) (.agg (encP y).toArray)) w = .ok (.bool (!decide (x = y))) w := by
  obtain ⟨a, b⟩ := x
  obtain ⟨c, d⟩ := y
  simp only [encP]
  rw [run_neq_struct, equalPair]
  rfl

theorem gdPair (op : BinOp) (a b : Operand) (x y : En) (w : World) : Sem.run Try.prog (eqGuard op 56 a b (.agg (encP x).toArray) (.agg (encP y).toArray)) w = .ok () w :=
  GuardAt.agg (P := Try.prog) (T := 56) (fun x : En => (encP x).toArray) (by kernel_rfl) op a b x y w

theorem row_at {w wr : World} {ao : Option Addr} {l : List En} (h3 : l ≠ [] → ∃ b off, ao = some ⟨b, off, none⟩ ∧ b < w.heap.size ∧ CellsK encP 2 w b off l) (i : Nat) (hi : i < l.length) (hb : Below w.heap.size w wr) :
    ∃ b off, ao = some ⟨b, off, none⟩ ∧ b < w.heap.size ∧ wr.cell? ⟨b, off + i * 2, none⟩ = some (.string l[i]!.1) ∧ wr.cell? ⟨b, off + i * 2 + 1, none⟩ = some (.string l[i]!.2) := by
  obtain ⟨b, off, e, hlt, hc⟩ := h3 (by intro h; rw [h] at hi; simp at hi)
  refine ⟨b, off, e, hlt, ?_, ?_⟩
  · rw [hb.cell (p := ⟨b, off + i * 2, none⟩) hlt, hc (i * 2) (by omega), get_flatK _ _ _ _ (by simp; omega), show i * 2 / 2 = i by omega, show i * 2 % 2 = 0 by omega]
    simp [encP]
  · rw [Nat.add_assoc, hb.cell (p := ⟨b, off + (i * 2 + 1), none⟩) hlt, hc (i * 2 + 1) (by omega), get_flatK _ _ _ _ (by simp; omega), show (i * 2 + 1) / 2 = i by omega, show (i * 2 + 1) % 2 = 1 by omega]
    simp [encP]

theorem eqlP {x y : En} {f : Bool} (h : decide (x = y) = f) (W : World) : Sem.run Try.prog (binOp .eql 56 (.agg #[.string x.1, .string x.2]) (.agg #[.string y.1, .string y.2])) W = .ok (.bool f) W := by
  have := eqlPair x y W
  rw [h] at this
  exact this

theorem neqP {x y : En} {f : Bool} (h : decide (x = y) = f) (W : World) : Sem.run Try.prog (binOp .neq 56 (.agg #[.string x.1, .string x.2]) (.agg #[.string y.1, .string y.2])) W = .ok (.bool !f) W := by
  have := neqPair x y W
  rw [h] at this
  exact this

theorem gdP (x y : En) (op : BinOp) (a b : Operand) (W : World) : Sem.run Try.prog (eqGuard op 56 a b (.agg #[.string x.1, .string x.2]) (.agg #[.string y.1, .string y.2])) W = .ok () W := gdPair op a b x y W

theorem take_next {α : Type} [Inhabited α] {l : List α} {i : Nat} (h : i < l.length) : l.take (i + 1) = l.take i ++ [l[i]!] := by
  rw [List.take_add_one, List.getElem?_eq_getElem h, getElem!_pos l i h]; rfl

theorem bang_mem {α : Type} [Inhabited α] {l : List α} {i : Nat} (h : i < l.length) : l[i]! ∈ l := by
  rw [getElem!_pos l i h]; exact List.getElem_mem h

theorem drop_here {α : Type} [Inhabited α] {l : List α} {i : Nat} (h : i < l.length) : l.drop i = l[i]! :: l.drop (i + 1) := by
  rw [List.drop_eq_getElem_cons h, getElem!_pos l i h]

theorem below_grown {B : Nat} {w W : World} (h : Below B w W) (hB : B ≤ W.heap.size) (n : Nat) (os : Array Obj) : Below B w (grow (W.drewN n) os) := h.trans ((GR.below (w := W) ⟨n, os, rfl⟩).mono hB)

/-- A row of pairs that the call has made by append. -/
abbrev OwnP (base : Nat) (W : World) (v : Value) (l : List En) : Prop := W.ownsRow base 56 2 v l.length (flatK encP 2 l.toArray).toList

theorem OwnP.empty (base : Nat) (W : World) : OwnP base W (.slice none 0 0) [] := by unfold OwnP; simpa [flatK] using World.ownsRow_nil W base 56 2

theorem OwnP.own {base : Nat} {W : World} {v : Value} {l : List En} (h : OwnP base W v l) : Own encP 2 base W v l := own_of_owns (by decide) h

theorem OwnP.step {base : Nat} {W w1 : World} {v v' : Value} {l : List En} {x : En} (hbase : base ≤ W.heap.size) (h : OwnP base W v l) (hgrow : W.grownBy w1 v.ownBlock) (hown : w1.ownsRow base 56 2 v' (l.length + 1) ((flatK encP 2 l.toArray).toList ++ encP x)) :
    OwnP base w1 v' (l ++ [x]) ∧ ∀ w0, Below base w0 W → Below base w0 w1 := by
  refine ⟨?_, fun w0 hb => hb.grown hgrow hbase fun k hk => ?_⟩
  · show w1.ownsRow base 56 2 v' (l ++ [x]).length (flatK encP 2 (l ++ [x]).toArray).toList
    rw [List.length_append, List.length_singleton, flatK_snoc encP 2 encP_len]
    exact hown
  · rcases row_of_owns h with hr | ⟨r, hr, hle⟩
    · rw [hr] at hk; cases hk
    · rw [hr] at hk; cases hk; exact hle

/-- One pair appended to such a row. -/
theorem app_pair {ops : Array Oper} {rest : List Oper} {o : Oper} {a : Act} {Q : Exit → Act → World → Prop} {w : World} (hgd : o.guard = .none) (s x : Operand)
    (ho : o.op = .call { callee := .builtin .append, args := #[s, x], argTypes := #[22, 22] }) (base : Nat) (v : Value) (l : List En) (hs : a.eval s = v) (hown : OwnP base w v l)
    (b off c : Nat) (hx : a.eval x = .slice (some ⟨b, off, .none⟩) 1 c) (y : En) (c0 : w.cell? ⟨b, off, .none⟩ = some (.string y.1)) (c1 : w.cell? ⟨b, off + 1, .none⟩ = some (.string y.2)) (hl : l.length < 1000000) (hbase : base ≤ w.heap.size)
    (h : ∀ ao n c w', OwnP base w' (.slice ao n c) (l ++ [y]) → (∀ w0, Below base w0 w → Below base w0 w') → wpList Try.prog ops Q rest (a.put o.dst (.slice ao n c)) w') : wpList Try.prog ops Q (o :: rest) a w := by
  obtain ⟨i0, hi, hz0, hz1, hz2⟩ := info_parts infoPair
  refine wpList_append_own w hgd s x 22 ho base 56 i0 _ 2 32 Try.underlying22 hi hz0 hz1 hz2 rfl (by decide) v _ _ hs hown ⟨b, off, .none⟩ 1 c (encP y) hx rfl ?_ (encP_one y) (by unfold maxLen; omega) (by omega) hbase ?_
  · intro j u hj
    simp only [encP] at hj
    match j, hj with
    | 0, hj => simp at hj; subst hj; simpa [Addr.add] using c0
    | 1, hj => simp at hj; subst hj; simpa [Addr.add] using c1
  · intro v' w' h1 h2 _
    obtain ⟨s1, s2⟩ := OwnP.step hbase hown h2 h1
    obtain ⟨ao', n', c', rfl⟩ : ∃ ao n c, v' = .slice ao n c := by
      rcases h1.2 with ⟨h, _⟩ | ⟨g, cap, cur, h, _⟩
      · exact ⟨_, _, _, h⟩
      · exact ⟨_, _, _, h⟩
    exact h _ _ _ _ s1 s2

theorem flatK_append {α : Type} [Inhabited α] (enc : α → List Value) (k : Nat) (hk : ∀ x, (enc x).length = k) : ∀ (m l : List α), (flatK enc k (l ++ m).toArray).toList = (flatK enc k l.toArray).toList ++ (flatK enc k m.toArray).toList
  | [], l => by simp [flatK]
  | x :: m, l => by
    have e1 : l ++ x :: m = (l ++ [x]) ++ m := by simp
    have e2 : (flatK enc k (x :: m).toArray).toList = enc x ++ (flatK enc k m.toArray).toList := by
      have h := flatK_append enc k hk m [x]
      have h2 := flatK_snoc enc k hk [] x
      rw [List.nil_append] at h2
      rw [h2] at h
      simpa [flatK] using h
    rw [e1, flatK_append enc k hk m (l ++ [x]), flatK_snoc enc k hk, e2, List.append_assoc]

theorem app_rowP {ops : Array Oper} {rest : List Oper} {o : Oper} {a : Act} {Q : Exit → Act → World → Prop} {w : World} (hgd : o.guard = .none) (s x : Operand)
    (ho : o.op = .call { callee := .builtin .append, args := #[s, x], argTypes := #[22, 22] }) (base : Nat) (v : Value) (l : List En) (hs : a.eval s = v) (hown : OwnP base w v l)
    (u : Value) (m : List En) (hx : a.eval x = u) (hu : Row encP 2 w u m) (hl : l.length + m.length < 1000000) (hbase : base ≤ w.heap.size) (lm : List En) (hlm : l ++ m = lm)
    (h : ∀ ao n c w', OwnP base w' (.slice ao n c) lm → (∀ w0, Below base w0 w → Below base w0 w') → wpList Try.prog ops Q rest (a.put o.dst (.slice ao n c)) w') : wpList Try.prog ops Q (o :: rest) a w := by
  subst hlm
  obtain ⟨i0, hi, hz0, hz1, hz2⟩ := info_parts infoPair
  obtain ⟨ao, cap, rfl, h1, h2, h3⟩ := hu
  obtain ⟨av, nv, cv, rfl⟩ : ∃ ao n c, v = .slice ao n c := by
    rcases hown.2 with ⟨h, _⟩ | ⟨g, cap, cur, h, _⟩
    · exact ⟨_, _, _, h⟩
    · exact ⟨_, _, _, h⟩
  cases ao with
  | none =>
    have hm : m = [] := by
      rcases List.eq_nil_or_concat m with e | ⟨m', y, e⟩
      · exact e
      · obtain ⟨b, off, e2, _⟩ := h3 (by rw [e]; simp)
        cases e2
    subst hm
    rw [h2 rfl] at hx
    refine wpList_append_own_none hgd s x 22 ho base 56 i0 2 Try.underlying22 hi _ _ _ hs hown hx ?_
    exact h _ _ _ _ (by rw [List.append_nil]; exact hown) (fun _ hb => hb)
  | some ad =>
    refine wpList_append_own w hgd s x 22 ho base 56 i0 _ 2 32 Try.underlying22 hi hz0 hz1 hz2 rfl (by decide) _ _ _ hs hown ad m.length cap (flatK encP 2 m.toArray).toList hx (by simp) ?_ (flatK_oneCell encP_one encP_len) (by unfold maxLen; omega) (by omega) hbase ?_
    · intro j u hj
      obtain ⟨hj1, hj2⟩ := List.getElem?_eq_some_iff.1 hj
      have hj3 : j < m.length * 2 := by simpa using hj1
      obtain ⟨b, off, e2, _, hc⟩ := h3 (by intro e; rw [e] at hj3; simp at hj3)
      cases e2
      rw [Go.WideShapes.add_plain, hc j hj3, getElem!_pos _ j (by simpa using hj3), ← hj2]
      simp
    · intro v' w' g1 g2 _
      obtain ⟨ao', n', c', rfl⟩ : ∃ ao n c, v' = .slice ao n c := by
        rcases g1.2 with ⟨h, _⟩ | ⟨g, cap, cur, h, _⟩
        · exact ⟨_, _, _, h⟩
        · exact ⟨_, _, _, h⟩
      refine h _ _ _ _ ?_ (fun w0 hb => hb.grown g2 hbase fun k hk => ?_)
      · show w'.ownsRow base 56 2 _ (l ++ m).length (flatK encP 2 (l ++ m).toArray).toList
        rw [List.length_append, flatK_append encP 2 encP_len]
        exact g1
      · rcases row_of_owns hown with hr | ⟨r, hr, hle⟩
        · rw [hr] at hk; cases hk
        · rw [hr] at hk; cases hk; exact hle

theorem ownsRow_below {W W' : World} {base : Nat} {e : TypeId} {k : Nat} {v : Value} {n : Nat} {xs : List Value} (h : W.ownsRow base e k v n xs) (hb : Below W.heap.size W W') : W'.ownsRow base e k v n xs := by
  obtain ⟨h1, h2⟩ := h
  refine ⟨h1, ?_⟩
  rcases h2 with h2 | ⟨g, cap, cur, hv, hg, hh, r⟩
  · exact Or.inl h2
  · exact Or.inr ⟨g, cap, cur, hv, hg, by rw [hb.block g (Array.getElem?_eq_some_iff.1 hh).1]; exact hh, r⟩

/-- A row that does not lie in block 'lo'. -/
def RowL (lo : Nat) (w : World) (v : Value) (l : List En) : Prop :=
  ∃ ao cap, v = .slice ao l.length cap ∧ l.length ≤ cap ∧ (ao = none → cap = 0) ∧ (l ≠ [] → ∃ b off, ao = some ⟨b, off, none⟩ ∧ b ≠ lo ∧ b < w.heap.size ∧ CellsK encP 2 w b off l)

/-- But for block 'lo' what was there is as it was. -/
def Kept (lo : Nat) (w W : World) : Prop := w.heap.size ≤ W.heap.size ∧ ∀ p : Addr, p.block ≠ lo → p.block < w.heap.size → W.cell? p = w.cell? p

theorem rowL_of_own {base bb : Nat} {w : World} {v : Value} {l : List En} (h : Own encP 2 base w v l) (hb : bb < base) : RowL bb w v l := by
  obtain ⟨ao, cap, e, h1, h2, h3⟩ := h
  refine ⟨ao, cap, e, h1, h2, fun hne => ?_⟩
  obtain ⟨b, off, e2, hl, hb', hH⟩ := h3 hne
  exact ⟨b, off, e2, by omega, hb', cells_of_holds hH⟩

theorem rowL_of_row {w : World} {v : Value} {l : List En} (h : Row encP 2 w v l) (o : Obj) : RowL w.heap.size (w.alloc o) v l := by
  obtain ⟨ao, cap, e, h1, h2, h3⟩ := h
  refine ⟨ao, cap, e, h1, h2, fun hne => ?_⟩
  obtain ⟨b, off, e2, hlt, hH⟩ := h3 hne
  exact ⟨b, off, e2, by omega, by simp; omega, fun t ht => Lib.cell?_alloc_some _ (hH t ht)⟩

theorem RowL.below {lo : Nat} {w W : World} {v : Value} {l : List En} (h : RowL lo w v l) (hb : Below w.heap.size w W) : RowL lo W v l := by
  obtain ⟨ao, cap, e, h1, h2, h3⟩ := h
  refine ⟨ao, cap, e, h1, h2, fun hne => ?_⟩
  obtain ⟨b, off, e2, hl, hlt, hH⟩ := h3 hne
  exact ⟨b, off, e2, hl, Nat.lt_of_lt_of_le hlt hb.size, fun t ht => (hb.cell (p := ⟨b, off + t, none⟩) hlt).trans (hH t ht)⟩

/-- A row's head. -/
theorem row_cons {lo : Nat} {w : World} {v : Value} {x : En} {l : List En} (h : RowL lo w v (x :: l)) :
    ∃ b off cap, v = .slice (some ⟨b, off, none⟩) (l.length + 1) cap ∧ l.length + 1 ≤ cap ∧ b ≠ lo ∧ b < w.heap.size ∧ w.cell? ⟨b, off, none⟩ = some (.string x.1) ∧ w.cell? ⟨b, off + 1, none⟩ = some (.string x.2) ∧
      ∀ ao, (l ≠ [] → ao = some ⟨b, off + 2, none⟩) → (ao = none → cap - 1 = 0) → RowL lo w (.slice ao l.length (cap - 1)) l := by
  obtain ⟨ao, cap, rfl, h1, h2, h3⟩ := h
  obtain ⟨b, off, rfl, hlo, hb, hc⟩ := h3 (by simp)
  have hlen : (x :: l).length = l.length + 1 := rfl
  have c0 := hc 0 (by rw [hlen]; omega)
  have c1 := hc 1 (by rw [hlen]; omega)
  rw [get_flatK _ _ _ _ (by simp)] at c0
  rw [get_flatK _ _ _ _ (by simp; omega)] at c1
  refine ⟨b, off, cap, rfl, h1, hlo, hb, by simpa [encP] using c0, by simpa [encP] using c1, fun ao ha hn => ⟨ao, cap - 1, rfl, by rw [hlen] at h1; omega, hn, fun hne => ⟨b, off + 2, ha hne, hlo, hb, fun t ht => ?_⟩⟩⟩
  have ct := hc (t + 2) (by rw [hlen]; omega)
  rw [get_flatK _ _ _ _ (by simp; omega)] at ct
  rw [get_flatK _ _ _ _ (by simpa using ht), show off + 2 + t = off + (t + 2) by omega, ct]
  have e1 : (t + 2) / 2 = t / 2 + 1 := by omega
  have e2 : (t + 2) % 2 = t % 2 := by omega
  rw [e1, e2]
  congr 3
  have ht2 : t / 2 < l.length := by omega
  rw [getElem!_pos _ _ (by simp; omega), getElem!_pos _ _ (by simpa using ht2)]
  simp

theorem row_block {α : Type} [Inhabited α] {enc : α → List Value} {k : Nat} {w : World} {b n : Nat} {T : TypeId} {fr : Nat × Nat} {cs : Array Value} {l : List α} (hb : w.heap[b]? = some (.cells cs T fr)) (hcs : cs = flatK enc k l.toArray) (hn : l.length = n) : Row enc k w (.slice (some ⟨b, 0, none⟩) n n) l := by
  subst hn
  refine ⟨_, _, rfl, Nat.le_refl _, (fun h => by cases h), fun _ => ⟨b, 0, rfl, (Array.getElem?_eq_some_iff.1 hb).1, fun t ht => ?_⟩⟩
  simp only [World.cell?, hb, Nat.zero_add, hcs]
  have ht' : t < (flatK enc k l.toArray).size := by simpa using ht
  rw [Array.getElem?_eq_getElem ht', getElem!_pos _ t ht']
  rfl

end Go.Proofs.Ytmamnlphhiaeoaa
