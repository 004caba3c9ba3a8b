/-
  A disk in memory: its own block, what is sure in a row of strings, what is pending in a row of writes, and a map of the last pending write of each sector.
-/
import Derived.Test.YtalljfckjkbieaaDoorDk
import Derived.Laws.OwnMore
import Derived.Laws.LoneSync
import Derived.ChangeMaps4
import Derived.Maps.Keyed
namespace Go.Proofs.YtalljfckjkbieaaDoor
open Go.RowKit
set_option linter.unusedVariables false
open Go.ChangeMaps (setBlock)

/-- A map by the keys that are Go's ints. -/
def isKey (k : Int) (e : MapEntry) : Bool := match e.key with | .int .i64 j => k == j | _ => false
def MapIs (w : World) (m : Nat) (g : Int → Option Value) : Prop :=
  ∃ es clock, w.heap[m]? = some (.map es clock) ∧ (∀ e ∈ es.toList, ∃ k, e.key = .int .i64 k) ∧ ∀ k, (es.toList.find? (isKey k)).map (·.val) = g k

theorem findNow_int (k : Int) : ∀ (es : List MapEntry) (i : Nat), (∀ e ∈ es, ∃ k, e.key = .int .i64 k) →
    (es.find? (isKey k) = none ∧ Instr.findNow (.int .i64) (.int .i64 k) es i = some none) ∨
    ∃ j e, es[j]? = some e ∧ es.find? (isKey k) = some e ∧ (∀ n, n < j → ∀ x, es[n]? = some x → isKey k x = false) ∧ Instr.findNow (.int .i64) (.int .i64 k) es i = some (some (i + j, e.val))
  | [], _, _ => .inl ⟨rfl, rfl⟩
  | e :: es, i, h => by
    obtain ⟨q, hq⟩ := h e (by simp)
    by_cases hk : k = q
    · refine .inr ⟨0, e, rfl, ?_, (fun n hn => by omega), ?_⟩
      · simp [List.find?, isKey, hq, hk]
      · simp [Instr.findNow, Instr.sameNow, hq, hk]
    · have hkq : (k == q) = false := beq_eq_false_iff_ne.2 hk
      have hik : isKey k e = false := by simp [isKey, hq, hkq]
      rcases findNow_int k es (i + 1) (fun x hx => h x (by simp [hx])) with ⟨h1, h2⟩ | ⟨j, x, h1, h2, h3, h4⟩
      · refine .inl ⟨?_, ?_⟩
        · rw [List.find?_cons, hik]; exact h1
        · simpa [Instr.findNow, Instr.sameNow, hq, hkq] using h2
      · refine .inr ⟨j + 1, x, by simpa using h1, ?_, ?_, ?_⟩
        · rw [List.find?_cons, hik]; exact h2
        · intro n hn y hy
          cases n with
          | zero => simp at hy; subst hy; exact hik
          | succ n => exact h3 n (by omega) y (by simpa using hy)
        · have e1 : i + (j + 1) = i + 1 + j := by omega
          rw [e1]
          simpa [Instr.findNow, Instr.sameNow, hq, hkq] using h4

theorem findKey_run (k : Int) (es : List MapEntry) (w : World) (r : Option (Nat × Value)) (h : Instr.findNow (.int .i64) (.int .i64 k) es 0 = some r) : (Instr.findKey 3 (.int .i64 k) es).run Tryd.prog w = .ok r w := by
  simp [Instr.findKey, run_underlying Tryd.underlying3, h, Result.andThen]
theorem checkKey_run (k : Int) (b : Bool) (w : World) : (Instr.checkKey b 10000 3 (.int .i64 k)).run Tryd.prog w = .ok () w := by
  exact MapKept.run_checkKey (n := 9999) Tryd.underlying3 (by simp [MapKept.IsKey]) b

def zeroW : Value := .agg #[.int .i64 0, .string ByteArray.empty]
theorem zeroW_run (w : World) : (zeroValue 79).run Tryd.prog w = .ok zeroW w := by kernel_rfl

theorem MapIs.look {w : World} {m : Nat} {g : Int → Option Value} (h : MapIs w m g) (k : Int) :
    (Instr.lookup 61 (.map (some m)) (.int .i64 k) true).run Tryd.prog w = .ok (.tuple #[(g k).getD zeroW, .bool (g k).isSome]) w := by
  obtain ⟨es, clock, hb, hk, hg⟩ := h
  rcases findNow_int k es.toList 0 hk with ⟨h1, h2⟩ | ⟨j, e, h1, h2, h3, h4⟩
  · have e := hg k
    rw [h1] at e
    rw [← e]
    simp [Instr.lookup, run_underlying Tryd.underlying61, MapKept.run_getObj_map hb, checkKey_run, findKey_run k _ w _ h2, Result.andThen]
    rfl
  · have e1 := hg k
    rw [h2] at e1
    rw [← e1]
    simp [Instr.lookup, run_underlying Tryd.underlying61, MapKept.run_getObj_map hb, checkKey_run, findKey_run k _ w _ h4, Result.andThen]

theorem find_modify (k q : Int) (v : Value) : ∀ (l : List MapEntry) (j : Nat) (e : MapEntry), l[j]? = some e → e.key = .int .i64 k → (∀ n, n < j → ∀ x, l[n]? = some x → isKey k x = false) →
    ((l.modify j fun e => { e with key := .int .i64 k, val := v }).find? (isKey q)).map (·.val) = if q = k then some v else (l.find? (isKey q)).map (·.val)
  | [], j, e, h, _, _ => by simp at h
  | x :: l, 0, e, h, he, _ => by
    simp at h
    subst h
    by_cases hq : q = k
    · simp [List.modify, isKey, hq]
    · have hqk : (q == k) = false := beq_eq_false_iff_ne.2 hq
      simp [List.modify, List.find?, isKey, hq, he, hqk]
  | x :: l, j + 1, e, h, he, hn => by
    have hx := hn 0 (by omega) x rfl
    have ih := find_modify k q v l j e (by simpa using h) he (fun n hn' y hy => hn (n + 1) (by omega) y (by simpa using hy))
    simp only [List.modify_succ_cons, List.find?]
    by_cases hq : q = k
    · subst hq; rw [hx]; simpa using ih
    · rw [if_neg hq] at ih ⊢
      cases isKey q x
      · simpa using ih
      · rfl

theorem find_push (k q : Int) (v : Value) (c : Nat) (l : List MapEntry) (h : l.find? (isKey k) = none) : ((l ++ [({ key := .int .i64 k, val := v, born := c } : MapEntry)]).find? (isKey q)).map (fun e => e.val) = if q = k then some v else (l.find? (isKey q)).map (fun e => e.val) := by
  rw [List.find?_append]
  by_cases hq : q = k
  · subst hq; rw [h]; simp [isKey]
  · cases hf : l.find? (isKey q) <;> simp [isKey, hq]

/-- A store at a key: in whatever world that has the map in that block. -/
theorem MapIs.put {w : World} {m : Nat} {g : Int → Option Value} (h : MapIs w m g) (k : Int) (v : Value) :
    ∃ es clock, (∀ u : World, u.heap[m]? = w.heap[m]? → (Instr.mapUpdate 61 (.map (some m)) (.int .i64 k) v).run Tryd.prog u = .ok () (setBlock u m (.map es clock))) ∧
      ∀ u : World, u.heap[m]? = some (.map es clock) → MapIs u m (fun q => if q = k then some v else g q) := by
  obtain ⟨es, clock, hb, hk, hg⟩ := h
  rcases findNow_int k es.toList 0 hk with ⟨h1, h2⟩ | ⟨j, e, h1, h2, h3, h4⟩
  · refine ⟨es.push { key := .int .i64 k, val := v, born := clock }, clock + 1, fun u hu => ?_, fun u hu => ⟨_, _, hu, ?_, fun q => ?_⟩⟩
    · rw [hb] at hu
      simp [Instr.mapUpdate, run_underlying Tryd.underlying61, MapKept.run_getObj_map hu, checkKey_run, findKey_run k _ u _ h2, MapKept.run_setObj_map _ hu, Result.andThen, setBlock]
    · intro x hx
      rw [Array.toList_push, List.mem_append] at hx
      rcases hx with hx | hx
      · exact hk x hx
      · simp at hx; subst hx; exact ⟨k, rfl⟩
    · rw [Array.toList_push, find_push k q v clock es.toList h1, hg q]
  · have hj : es[j]? = some e := by simpa using h1
    obtain ⟨q0, hq0⟩ := hk e (List.mem_of_getElem? h1)
    have hqk : q0 = k := by
      have := List.find?_some h2
      simp [isKey, hq0] at this
      exact this.symm
    subst hqk
    refine ⟨es.modify j fun e => { e with key := .int .i64 q0, val := v }, clock, fun u hu => ?_, fun u hu => ⟨_, _, hu, ?_, fun q => ?_⟩⟩
    · rw [hb] at hu
      simp [Instr.mapUpdate, run_underlying Tryd.underlying61, MapKept.run_getObj_map hu, checkKey_run, findKey_run q0 _ u _ h4, MapKept.run_setObj_map _ hu, Result.andThen, setBlock, hj, hq0, Instr.keyThatStays, Instr.sameBits]
    · intro x hx
      rw [Array.toList_modify] at hx
      obtain ⟨n, hn⟩ := List.mem_iff_getElem?.1 hx
      rw [List.getElem?_modify] at hn
      cases hy : es.toList[n]? with
      | none => rw [hy] at hn; simp at hn
      | some y =>
        rw [hy] at hn
        simp only [Option.map_eq_map, Option.map_some, Option.some.injEq] at hn
        split at hn
        · subst hn; exact ⟨q0, rfl⟩
        · subst hn; exact hk y (List.mem_of_getElem? hy)
    · rw [Array.toList_modify, find_modify q0 q v es.toList j e h1 hq0 h3, hg q]

theorem MapIs.kept {w w' : World} {m : Nat} {g : Int → Option Value} (h : MapIs w m g) (e : w'.heap[m]? = w.heap[m]?) : MapIs w' m g := by
  obtain ⟨es, clock, hb, r⟩ := h
  exact ⟨es, clock, e.trans hb, r⟩
theorem MapIs.lt {w : World} {m : Nat} {g : Int → Option Value} (h : MapIs w m g) : m < w.heap.size := by
  obtain ⟨es, clock, hb, _⟩ := h
  exact (Array.getElem?_eq_some_iff.1 hb).1
theorem MapIs.empty {w : World} {m clock : Nat} (h : w.heap[m]? = some (.map #[] clock)) : MapIs w m (fun _ => none) := ⟨_, _, h, (fun e he => by simp at he), fun k => by simp⟩
theorem MapIs.clear {w : World} {m : Nat} {g : Int → Option Value} (h : MapIs w m g) : ∃ clock, ∀ (u : World) (ty : TypeId), u.heap[m]? = w.heap[m]? → (Builtin.clear_ #[61] ty #[.map (some m)]).run Tryd.prog u = .ok (.tuple #[]) (setBlock u m (.map #[] clock)) := by
  obtain ⟨es, clock, hb, _⟩ := h
  refine ⟨clock, fun u ty hu => ?_⟩
  rw [hb] at hu
  simp [Builtin.clear_, run_underlying Tryd.underlying61, MapKept.run_getObj_map hu, MapKept.run_setObj_map _ hu, Result.andThen, setBlock]

theorem setBlock_same {w : World} {m : Nat} (h : m < w.heap.size) (o : Obj) : (setBlock w m o).heap[m]? = some o := by simp [setBlock, h]
theorem setBlock_other (w : World) {m k : Nat} (h : k ≠ m) (o : Obj) : (setBlock w m o).heap[k]? = w.heap[k]? := by simp [setBlock, Ne.symm h]

def flatW (l : List Wr) : List Value := l.flatMap fun p => [.int .i64 p.1, .string p.2]
theorem flatW_length : ∀ l, (flatW l).length = l.length * 2
  | [] => rfl
  | p :: l => by
    have ih := flatW_length l
    have e : flatW (p :: l) = .int .i64 p.1 :: .string p.2 :: flatW l := rfl
    rw [e, List.length_cons, List.length_cons, ih, List.length_cons]; omega
theorem flatW_snoc (l : List Wr) (p : Wr) : flatW (l ++ [p]) = flatW l ++ [.int .i64 p.1, .string p.2] := by simp [flatW]
theorem flatW_get : ∀ (l : List Wr) (k : Nat), k < l.length → (flatW l)[k * 2]? = some (.int .i64 (wAt l k).1) ∧ (flatW l)[k * 2 + 1]? = some (.string (wAt l k).2)
  | [], k, h => by simp at h
  | p :: l, 0, _ => by simp [flatW, wAt]
  | p :: l, k + 1, h => by
    have ih := flatW_get l k (by simpa using h)
    have e : flatW (p :: l) = .int .i64 p.1 :: .string p.2 :: flatW l := rfl
    rw [e, show (k + 1) * 2 = k * 2 + 1 + 1 by omega]
    simpa [wAt] using ih

def mapOf (pend : List Wr) (k : Int) : Option Value := if k < 0 then none else (lastTo pend k.toNat pend.length).map fun s => .agg #[.int .i64 k, .string s]
theorem mapOf_nil : mapOf [] = fun _ => none := by funext k; simp [mapOf, lastTo]
theorem mapOf_snoc (l : List Wr) (i : Nat) (s : ByteArray) : (fun q : Int => if q = i then some (.agg #[.int .i64 i, .string s]) else mapOf l q) = mapOf (l ++ [(i, s)]) := by
  funext q
  by_cases hq : q = i
  · subst hq
    rw [if_pos rfl]
    unfold mapOf
    rw [if_neg (by omega), Int.toNat_natCast, lastTo_snoc, if_pos rfl]
    rfl
  · rw [if_neg hq]
    unfold mapOf
    split
    · rfl
    · rw [lastTo_snoc, if_neg (by simp; omega)]

/-- A disk in its blocks. -/
structure Mem (w : World) (b m g : Nat) (pv : Value) (br : Bool) (lf : Int) (d : Dk) : Prop where
  blk : w.heap[b]? = some (.cells #[.slice (some ⟨g, 0, none⟩) d.sure.length d.sure.length, pv, .map (some m), .bool br, .int .i64 lf, .bool d.down, .int .i64 d.reads, .int .i64 d.writes] 69 (0, 0))
  row : w.heap[g]? = some (.cells (d.sure.map Value.string).toArray 9 (0, 0))
  pnd : w.ownsRow 0 79 2 pv d.pend.length (flatW d.pend)
  map : MapIs w m (mapOf d.pend)
  enc : d.down = false → (d.brk = none ∧ br = false) ∨ ∃ k : Nat, d.brk = some k ∧ br = true ∧ lf = k
  ok : d.Ok
  bg : b ≠ g
  bm : b ≠ m
  gm : g ≠ m
  pb : pv.ownBlock ≠ some b
  pg : pv.ownBlock ≠ some g
  pm : pv.ownBlock ≠ some m

/-- All but the blocks of X is as it was. -/
structure Turn (X : Nat → Prop) (w w' : World) : Prop where
  os : w'.os = w.os
  tape : w'.tape = w.tape
  output : w'.output = w.output
  size : w.heap.size ≤ w'.heap.size
  block : ∀ k, k < w.heap.size → ¬ X k → w'.heap[k]? = w.heap[k]?

/-- A disk whose blocks are all in X. -/
def Mine (X : Nat → Prop) (w : World) (b : Nat) (d : Dk) : Prop :=
  (∃ m g pv br lf, Mem w b m g pv br lf d ∧ X b ∧ X m ∧ X g ∧ ∀ k, pv.ownBlock = some k → X k) ∧ ∀ k, X k → k < w.heap.size

theorem Turn.refl (X : Nat → Prop) (w : World) : Turn X w w := ⟨rfl, rfl, rfl, Nat.le_refl _, fun _ _ _ => rfl⟩
theorem Turn.trans {X Y : Nat → Prop} {u v w : World} (h : Turn X u v) (k : Turn Y v w) (hY : ∀ k, Y k → X k ∨ u.heap.size ≤ k) : Turn X u w :=
  ⟨k.os.trans h.os, k.tape.trans h.tape, k.output.trans h.output, Nat.le_trans h.size k.size, fun i hi hx => (k.block i (Nat.lt_of_lt_of_le hi h.size) (fun hy => (hY i hy).elim hx (fun h1 => by omega))).trans (h.block i hi hx)⟩
theorem Turn.drew (X : Nat → Prop) (w : World) : Turn X w w.drew := ⟨rfl, rfl, rfl, Nat.le_refl _, fun _ _ _ => rfl⟩
theorem Turn.alloc (X : Nat → Prop) (w : World) (o : Obj) : Turn X w (w.alloc o) := ⟨rfl, rfl, rfl, by simp, fun k hk _ => Below.heap_alloc _ _ _ hk⟩
theorem Turn.setCell {X : Nat → Prop} (w : World) {b o : Nat} (hb : X b) (v : Value) : Turn X w (w.setCell ⟨b, o, none⟩ v) :=
  ⟨rfl, rfl, rfl, by simp [World.setCell], fun k _ hx => Below.heap_setCell _ _ _ _ (fun e => hx (by rw [e]; exact hb))⟩
theorem Turn.setBlock {X : Nat → Prop} (w : World) {b : Nat} (hb : X b) (o : Obj) : Turn X w (setBlock w b o) :=
  ⟨rfl, rfl, rfl, by simp [Go.ChangeMaps.setBlock], fun k _ hx => setBlock_other w (fun e => hx (by rw [e]; exact hb)) o⟩
theorem Turn.grown {X : Nat → Prop} {w w' : World} {row : Option Nat} (h : w.grownBy w' row) (hX : ∀ k, row = some k → X k) : Turn X w w' :=
  ⟨h.os, h.tape, h.output, h.size, fun k hk hx => h.block k hk (fun e => hx (hX k e.symm))⟩
theorem Turn.of_below {X : Nat → Prop} {w w' : World} (h : Below w.heap.size w w') : Turn X w w' := ⟨h.os, h.tape, h.output, h.size, fun k hk _ => h.block k hk⟩
theorem Turn.below {X : Nat → Prop} {B : Nat} {a w w' : World} (hb : Below B a w) (h : Turn X w w') (hB : B ≤ w.heap.size) (hX : ∀ k, X k → B ≤ k) : Below B a w' :=
  hb.trans ⟨h.os, h.tape, h.output, h.size, fun k hk => h.block k (by omega) (fun hx => by have := hX k hx; omega)⟩

theorem ownsRow_kept' {w w' : World} {base : Nat} {e : TypeId} {size : Nat} {v : Value} {n : Nat} {xs : List Value} (h : w.ownsRow base e size v n xs) (hk : ∀ k, v.ownBlock = some k → w'.heap[k]? = w.heap[k]?) : w'.ownsRow base e size v n xs := by
  refine ⟨h.1, ?_⟩
  rcases h.2 with hn | ⟨g, cap, cur, rfl, hb, hg, rest⟩
  · exact .inl hn
  · exact .inr ⟨g, cap, cur, rfl, hb, (hk g rfl).trans hg, rest⟩

theorem Mem.kept {w w' : World} {b m g : Nat} {pv : Value} {br : Bool} {lf : Int} {d : Dk} (h : Mem w b m g pv br lf d) (hb : w'.heap[b]? = w.heap[b]?) (hm : w'.heap[m]? = w.heap[m]?) (hg : w'.heap[g]? = w.heap[g]?) (hp : ∀ k, pv.ownBlock = some k → w'.heap[k]? = w.heap[k]?) : Mem w' b m g pv br lf d :=
  ⟨hb.trans h.blk, hg.trans h.row, ownsRow_kept' h.pnd hp, h.map.kept hm, h.enc, h.ok, h.bg, h.bm, h.gm, h.pb, h.pg, h.pm⟩
theorem Mem.pk {w : World} {b m g : Nat} {pv : Value} {br : Bool} {lf : Int} {d : Dk} (h : Mem w b m g pv br lf d) {k : Nat} (hk : pv.ownBlock = some k) : k < w.heap.size ∧ k ≠ b ∧ k ≠ g ∧ k ≠ m :=
  ⟨(h.pnd.lt k hk).2, fun e => h.pb (by rw [hk, e]), fun e => h.pg (by rw [hk, e]), fun e => h.pm (by rw [hk, e])⟩
theorem Mem.bl {w : World} {b m g : Nat} {pv : Value} {br : Bool} {lf : Int} {d : Dk} (h : Mem w b m g pv br lf d) : b < w.heap.size := (Array.getElem?_eq_some_iff.1 h.blk).1
theorem Mem.gl {w : World} {b m g : Nat} {pv : Value} {br : Bool} {lf : Int} {d : Dk} (h : Mem w b m g pv br lf d) : g < w.heap.size := (Array.getElem?_eq_some_iff.1 h.row).1
/-- A disk is not touched by what turns other blocks. -/
theorem Mine.kept {X Y : Nat → Prop} {w w' : World} {b : Nat} {d : Dk} (h : Mine Y w b d) (t : Turn X w w') (hd : ∀ k, Y k → ¬ X k) : Mine Y w' b d := by
  obtain ⟨⟨m, g, pv, br, lf, hM, yb, ym, yg, yp⟩, hl⟩ := h
  have k1 : ∀ k, Y k → w'.heap[k]? = w.heap[k]? := fun k hk => t.block k (hl k hk) (hd k hk)
  exact ⟨⟨m, g, pv, br, lf, hM.kept (k1 _ yb) (k1 _ ym) (k1 _ yg) (fun k hk => k1 k (yp k hk)), yb, ym, yg, yp⟩, fun k hk => Nat.lt_of_lt_of_le (hl k hk) t.size⟩

end Go.Proofs.YtalljfckjkbieaaDoor
