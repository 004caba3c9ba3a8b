/-
  Texts of elder layers, joined: Dk, Mem, Small, Chg, Read, Write, Sync, Crash, Plain, New, Api, Sep, Up, Up2, PfKit.
-/
import Derived.Test.YtnjnggjbeklmpaaDoorRows
import Derived.WalkKit
import Derived.WalkSpells
import Derived.WalkLawsBesides
import Derived.Laws.OwnMore
import Derived.Laws.LoneSync
import Derived.ChangeMaps4
import Derived.Maps.Keyed
import Derived.BigRegion
import Derived.Maps.AppendAt
import Derived.Deep.RegionLaw
import Derived.Deep.LoopGhost
import Derived.Test.YtnjnggjbeklmpaaDoorShelf
import Derived.Deep.QuietTactic
import Derived.BigQuiet
import Derived.Deep.RegionHeld3
namespace Go.Proofs.YtnjnggjbeklmpaaDoor

/-! Dk -/
section
open Go.RowKit
set_option linter.unusedVariables false

abbrev Wr := Nat × ByteArray

structure Dk where
  sure : List ByteArray
  pend : List Wr
  brk : Option Nat
  down : Bool
  reads : Int
  writes : Int

def tear (n : Nat) (new old : ByteArray) : ByteArray := new.extract 0 n ++ old.extract n old.size
def wAt (l : List Wr) (k : Nat) : Wr := l.getD k (0, ByteArray.empty)
def sAt (l : List ByteArray) (i : Nat) : ByteArray := l.getD i ByteArray.empty

/-- The text that a sector reads as, over the first n pending writes. -/
def nowTo (sure : List ByteArray) (pend : List Wr) (i : Nat) (n : Nat) : ByteArray := (List.range n).foldl (fun s k => if (wAt pend k).1 = i then (wAt pend k).2 else s) (sAt sure i)
def Dk.now (d : Dk) (i : Nat) : ByteArray := nowTo d.sure d.pend i d.pend.length
def lastTo (pend : List Wr) (i : Nat) (n : Nat) : Option ByteArray := (List.range n).foldl (fun s k => if (wAt pend k).1 = i then some (wAt pend k).2 else s) none

def syncTo (pend : List Wr) (sure : List ByteArray) (n : Nat) : List ByteArray := (List.range n).foldl (fun s k => s.set (wAt pend k).1 (wAt pend k).2) sure
def clampN (c : Int) : Nat := (min (max c 0) 256).toNat
def crashStep (pend : List Wr) (keep : List Int) (torn cut : Int) (s : List ByteArray) (k : Nat) : List ByteArray :=
  if keep.contains (k : Int) then s.set (wAt pend k).1 (tear (if (k : Int) = torn then clampN cut else 256) (wAt pend k).2 (sAt s (wAt pend k).1)) else s
def crashTo (pend : List Wr) (keep : List Int) (torn cut : Int) (sure : List ByteArray) (n : Nat) : List ByteArray := (List.range n).foldl (crashStep pend keep torn cut) sure

def zeroS : ByteArray := ⟨Array.replicate 256 0⟩
def Dk.new (n : Int) : Dk := ⟨List.replicate (min (max n 0) 16384).toNat zeroS, [], none, false, 0, 0⟩
def Dk.has (d : Dk) (i : Int) : Bool := decide (0 ≤ i ∧ i < d.sure.length)
def Dk.get (d : Dk) (i : Int) : (ByteArray × Int) × Dk :=
  if d.down then ((ByteArray.empty, 4), d) else if d.has i then ((d.now i.toNat, 0), { d with reads := wrap64 (d.reads + 1) }) else ((ByteArray.empty, 40), d)
def Dk.tick (d : Dk) : Int × Dk :=
  match d.brk with
  | none => (0, d)
  | some 0 => (4, { d with down := true, brk := none })
  | some (k + 1) => (0, { d with brk := some k })
def Dk.put (d : Dk) (i : Int) (s : ByteArray) : Int × Dk :=
  if d.down then (4, d) else if d.has i then (if s.size = 256 then { d with pend := d.pend ++ [(i.toNat, s)], writes := wrap64 (d.writes + 1) : Dk }.tick else (1, d)) else (40, d)
def Dk.sync (d : Dk) : Int × Dk :=
  if d.down then (4, d) else (0, { d with sure := syncTo d.pend d.sure d.pend.length, pend := [] })
def Dk.stop (d : Dk) (n : Int) : Dk := { d with brk := if n < 0 then none else some n.toNat }
def Dk.crash (d : Dk) (keep : List Int) (torn cut : Int) : Dk :=
  { d with sure := crashTo d.pend keep torn cut d.sure d.pend.length, pend := [], brk := none, down := false }
def Dk.sureAt (d : Dk) (i : Int) : ByteArray := if d.has i then sAt d.sure i.toNat else ByteArray.empty

/-- All texts have 256 bytes, all pending writes a sector; the numbers are Go's. -/
structure Dk.Ok (d : Dk) : Prop where
  len : d.sure.length ≤ 16384
  sz : ∀ s ∈ d.sure, s.size = 256
  pd : ∀ p ∈ d.pend, p.1 < d.sure.length ∧ p.2.size = 256
  brk : ∀ k, d.brk = some k → k ≤ 9223372036854775807

theorem sAt_size {l : List ByteArray} (h : ∀ s ∈ l, s.size = 256) {i : Nat} (hi : i < l.length) : (sAt l i).size = 256 := by
  unfold sAt; rw [List.getD_eq_getElem?_getD, List.getElem?_eq_getElem hi]; exact h _ (List.getElem_mem hi)
theorem wAt_ok {d : Dk} (h : d.Ok) {k : Nat} (hk : k < d.pend.length) : (wAt d.pend k).1 < d.sure.length ∧ (wAt d.pend k).2.size = 256 := by
  unfold wAt; rw [List.getD_eq_getElem?_getD, List.getElem?_eq_getElem hk]; exact h.pd _ (List.getElem_mem hk)
theorem tear_size {n : Nat} (hn : n ≤ 256) {a b : ByteArray} (ha : a.size = 256) (hb : b.size = 256) : (tear n a b).size = 256 := by
  unfold tear; rw [ByteArray.size_append, ByteArray.size_extract, ByteArray.size_extract]; omega
theorem tear_all {a b : ByteArray} (ha : a.size = 256) (hb : b.size = 256) : tear 256 a b = a := by
  unfold tear
  rw [show b.extract 256 b.size = ByteArray.empty by rw [hb]; simp, show a.extract 0 256 = a by rw [← ha]; simp]
  simp
theorem clampN_le (c : Int) : clampN c ≤ 256 := by unfold clampN; omega

theorem nowTo_zero (s : List ByteArray) (p : List Wr) (i : Nat) : nowTo s p i 0 = sAt s i := rfl
theorem nowTo_succ (s : List ByteArray) (p : List Wr) (i n : Nat) : nowTo s p i (n + 1) = if (wAt p n).1 = i then (wAt p n).2 else nowTo s p i n := by simp [nowTo, List.range_succ]
theorem lastTo_succ (p : List Wr) (i n : Nat) : lastTo p i (n + 1) = if (wAt p n).1 = i then some (wAt p n).2 else lastTo p i n := by simp [lastTo, List.range_succ]
theorem syncTo_succ (p : List Wr) (s : List ByteArray) (n : Nat) : syncTo p s (n + 1) = (syncTo p s n).set (wAt p n).1 (wAt p n).2 := by simp [syncTo, List.range_succ]
theorem crashTo_succ (p : List Wr) (keep : List Int) (torn cut : Int) (s : List ByteArray) (n : Nat) : crashTo p keep torn cut s (n + 1) = crashStep p keep torn cut (crashTo p keep torn cut s n) n := by simp [crashTo, List.range_succ]

theorem nowTo_last (s : List ByteArray) (p : List Wr) (i : Nat) : ∀ n, nowTo s p i n = (lastTo p i n).getD (sAt s i)
  | 0 => rfl
  | n + 1 => by rw [nowTo_succ, lastTo_succ, nowTo_last s p i n]; split <;> rfl

theorem wAt_snoc_lt (l : List Wr) (x : Wr) {k : Nat} (h : k < l.length) : wAt (l ++ [x]) k = wAt l k := by
  unfold wAt; rw [List.getD_eq_getElem?_getD, List.getD_eq_getElem?_getD, List.getElem?_append_left h]
theorem wAt_snoc (l : List Wr) (x : Wr) : wAt (l ++ [x]) l.length = x := by
  unfold wAt; rw [List.getD_eq_getElem?_getD]; simp
theorem lastTo_congr (l m : List Wr) (i : Nat) : ∀ n, (∀ k, k < n → wAt l k = wAt m k) → lastTo l i n = lastTo m i n
  | 0, _ => rfl
  | n + 1, h => by rw [lastTo_succ, lastTo_succ, h n (Nat.lt_succ_self _), lastTo_congr l m i n fun k hk => h k (by omega)]
theorem nowTo_congr (s : List ByteArray) (l m : List Wr) (i n : Nat) (h : ∀ k, k < n → wAt l k = wAt m k) : nowTo s l i n = nowTo s m i n := by rw [nowTo_last, nowTo_last, lastTo_congr l m i n h]
theorem lastTo_snoc (l : List Wr) (x : Wr) (i : Nat) : lastTo (l ++ [x]) i (l ++ [x]).length = if x.1 = i then some x.2 else lastTo l i l.length := by
  rw [show (l ++ [x]).length = l.length + 1 by simp, lastTo_succ, wAt_snoc, lastTo_congr (l ++ [x]) l i l.length fun k hk => wAt_snoc_lt l x hk]
theorem nowTo_snoc (s : List ByteArray) (l : List Wr) (x : Wr) (i : Nat) : nowTo s (l ++ [x]) i (l ++ [x]).length = if x.1 = i then x.2 else nowTo s l i l.length := by
  rw [nowTo_last, nowTo_last, lastTo_snoc]; split <;> rfl

theorem syncTo_length (p : List Wr) (s : List ByteArray) : ∀ n, (syncTo p s n).length = s.length
  | 0 => rfl
  | n + 1 => by rw [syncTo_succ, List.length_set, syncTo_length p s n]
theorem crashStep_length (p : List Wr) (keep : List Int) (torn cut : Int) (s : List ByteArray) (k : Nat) : (crashStep p keep torn cut s k).length = s.length := by unfold crashStep; split <;> simp
theorem crashTo_length (p : List Wr) (keep : List Int) (torn cut : Int) (s : List ByteArray) : ∀ n, (crashTo p keep torn cut s n).length = s.length
  | 0 => rfl
  | n + 1 => by rw [crashTo_succ, crashStep_length, crashTo_length p keep torn cut s n]
theorem set_sizes {l : List ByteArray} (h : ∀ s ∈ l, s.size = 256) {i : Nat} {x : ByteArray} (hx : x.size = 256) : ∀ s ∈ l.set i x, s.size = 256 := fun s hs => by
  rcases List.mem_or_eq_of_mem_set hs with h1 | h1
  · exact h s h1
  · rw [h1]; exact hx
theorem syncTo_sizes {d : Dk} (h : d.Ok) : ∀ n, n ≤ d.pend.length → ∀ s ∈ syncTo d.pend d.sure n, s.size = 256
  | 0, _ => h.sz
  | n + 1, hn => by rw [syncTo_succ]; exact set_sizes (syncTo_sizes h n (by omega)) (wAt_ok h (by omega)).2
theorem crashTo_sizes {d : Dk} (h : d.Ok) (keep : List Int) (torn cut : Int) : ∀ n, n ≤ d.pend.length → ∀ s ∈ crashTo d.pend keep torn cut d.sure n, s.size = 256
  | 0, _ => h.sz
  | n + 1, hn => by
    have ih := crashTo_sizes h keep torn cut n (by omega)
    rw [crashTo_succ]
    unfold crashStep
    split
    · refine set_sizes ih (tear_size ?_ (wAt_ok h (by omega)).2 (sAt_size ih ?_))
      · split
        · exact clampN_le _
        · exact Nat.le_refl _
      · rw [crashTo_length]; exact (wAt_ok h (by omega)).1
    · exact ih

theorem zeroS_size : zeroS.size = 256 := by decide +kernel
theorem Dk.new_ok (n : Int) : (Dk.new n).Ok := by
  refine ⟨?_, fun s hs => ?_, fun p hp => ?_, fun k hk => ?_⟩
  · simp [Dk.new]; omega
  · simp only [Dk.new, List.mem_replicate] at hs; rw [hs.2]; exact zeroS_size
  · simp [Dk.new] at hp
  · simp [Dk.new] at hk
theorem Dk.Ok.get {d : Dk} (h : d.Ok) (i : Int) : (d.get i).2.Ok := by
  unfold Dk.get; split
  · exact h
  · split
    · exact ⟨h.len, h.sz, h.pd, h.brk⟩
    · exact h
theorem Dk.Ok.tick {d : Dk} (h : d.Ok) : d.tick.2.Ok := by
  unfold Dk.tick; split
  · exact h
  · exact ⟨h.len, h.sz, h.pd, (fun k hk => by cases hk)⟩
  · rename_i k hk
    exact ⟨h.len, h.sz, h.pd, fun j hj => by have := h.brk _ hk; cases hj; omega⟩
theorem Dk.Ok.put {d : Dk} (h : d.Ok) (i : Int) (s : ByteArray) : (d.put i s).2.Ok := by
  unfold Dk.put; split
  · exact h
  · split
    · split
      · rename_i h2 h3
        refine Dk.Ok.tick ⟨h.len, h.sz, fun p hp => ?_, h.brk⟩
        rcases List.mem_append.1 hp with h1 | h1
        · exact h.pd p h1
        · simp only [List.mem_singleton] at h1
          subst h1
          have := of_decide_eq_true h2
          exact ⟨by show i.toNat < d.sure.length; omega, h3⟩
      · exact h
    · exact h
theorem Dk.Ok.sync {d : Dk} (h : d.Ok) : d.sync.2.Ok := by
  unfold Dk.sync; split
  · exact h
  · exact ⟨by show (syncTo _ _ _).length ≤ _; rw [syncTo_length]; exact h.len, syncTo_sizes h _ (Nat.le_refl _), (fun p hp => by cases hp), h.brk⟩
theorem Dk.Ok.stop {d : Dk} (h : d.Ok) {n : Int} (hn : n ≤ 9223372036854775807) : (d.stop n).Ok :=
  ⟨h.len, h.sz, h.pd, fun k hk => by unfold Dk.stop at hk; simp only at hk; split at hk <;> cases hk; omega⟩
theorem Dk.Ok.crash {d : Dk} (h : d.Ok) (keep : List Int) (torn cut : Int) : (d.crash keep torn cut).Ok :=
  ⟨by show (crashTo _ _ _ _ _ _).length ≤ _; rw [crashTo_length]; exact h.len, crashTo_sizes h keep torn cut _ (Nat.le_refl _), (fun p hp => by cases hp), (fun k hk => by cases hk)⟩
theorem Dk.get_length (d : Dk) (i : Int) : (d.get i).2.sure.length = d.sure.length ∧ (d.get i).2.pend = d.pend := by
  unfold Dk.get; split
  · exact ⟨rfl, rfl⟩
  · split <;> exact ⟨rfl, rfl⟩
theorem Dk.tick_same (d : Dk) : d.tick.2.sure = d.sure ∧ d.tick.2.pend = d.pend ∧ d.tick.2.reads = d.reads ∧ d.tick.2.writes = d.writes := by
  unfold Dk.tick; split <;> exact ⟨rfl, rfl, rfl, rfl⟩
theorem Dk.put_sure (d : Dk) (i : Int) (s : ByteArray) : (d.put i s).2.sure = d.sure ∧ (d.put i s).2.pend.length ≤ d.pend.length + 1 := by
  unfold Dk.put; split
  · exact ⟨rfl, Nat.le_succ _⟩
  · split
    · split
      · refine ⟨(Dk.tick_same _).1, ?_⟩
        rw [(Dk.tick_same _).2.1]; simp
      · exact ⟨rfl, Nat.le_succ _⟩
    · exact ⟨rfl, Nat.le_succ _⟩
theorem Dk.sync_length (d : Dk) : d.sync.2.sure.length = d.sure.length ∧ d.sync.2.pend.length ≤ d.pend.length := by
  unfold Dk.sync; split
  · exact ⟨rfl, Nat.le_refl _⟩
  · exact ⟨syncTo_length _ _ _, Nat.zero_le _⟩
theorem Dk.crash_length (d : Dk) (keep : List Int) (torn cut : Int) : (d.crash keep torn cut).sure.length = d.sure.length := crashTo_length _ _ _ _ _ _
end

/-! Mem -/
section
open Go.RowKit
set_option linter.unusedVariables false
open Go.ChangeMaps (setBlock)

/-- A map by the keys that are Go's ints. -/
def isKey (k : Int) (e : MapEntry) : Bool := match e.key with | .int .i64 j => k == j | _ => false
def MapIs (w : World) (m : Nat) (g : Int → Option Value) : Prop :=
  ∃ es clock, w.heap[m]? = some (.map es clock) ∧ (∀ e ∈ es.toList, ∃ k, e.key = .int .i64 k) ∧ ∀ k, (es.toList.find? (isKey k)).map (·.val) = g k

theorem findNow_int (k : Int) : ∀ (es : List MapEntry) (i : Nat), (∀ e ∈ es, ∃ k, e.key = .int .i64 k) →
    (es.find? (isKey k) = none ∧ Instr.findNow (.int .i64) (.int .i64 k) es i = some none) ∨
    ∃ j e, es[j]? = some e ∧ es.find? (isKey k) = some e ∧ (∀ n, n < j → ∀ x, es[n]? = some x → isKey k x = false) ∧ Instr.findNow (.int .i64) (.int .i64 k) es i = some (some (i + j, e.val))
  | [], _, _ => .inl ⟨rfl, rfl⟩
  | e :: es, i, h => by
    obtain ⟨q, hq⟩ := h e (by simp)
    by_cases hk : k = q
    · refine .inr ⟨0, e, rfl, ?_, (fun n hn => by omega), ?_⟩
      · simp [List.find?, isKey, hq, hk]
      · simp [Instr.findNow, Instr.sameNow, hq, hk]
    · have hkq : (k == q) = false := beq_eq_false_iff_ne.2 hk
      have hik : isKey k e = false := by simp [isKey, hq, hkq]
      rcases findNow_int k es (i + 1) (fun x hx => h x (by simp [hx])) with ⟨h1, h2⟩ | ⟨j, x, h1, h2, h3, h4⟩
      · refine .inl ⟨?_, ?_⟩
        · rw [List.find?_cons, hik]; exact h1
        · simpa [Instr.findNow, Instr.sameNow, hq, hkq] using h2
      · refine .inr ⟨j + 1, x, by simpa using h1, ?_, ?_, ?_⟩
        · rw [List.find?_cons, hik]; exact h2
        · intro n hn y hy
          cases n with
          | zero => simp at hy; subst hy; exact hik
          | succ n => exact h3 n (by omega) y (by simpa using hy)
        · have e1 : i + (j + 1) = i + 1 + j := by omega
          rw [e1]
          simpa [Instr.findNow, Instr.sameNow, hq, hkq] using h4

theorem findKey_run (k : Int) (es : List MapEntry) (w : World) (r : Option (Nat × Value)) (h : Instr.findNow (.int .i64) (.int .i64 k) es 0 = some r) : (Instr.findKey 3 (.int .i64 k) es).run Tryd.prog w = .ok r w := by
  simp [Instr.findKey, run_underlying Tryd.underlying3, h, Result.andThen]
theorem checkKey_run (k : Int) (b : Bool) (w : World) : (Instr.checkKey b 10000 3 (.int .i64 k)).run Tryd.prog w = .ok () w := by
  exact MapKept.run_checkKey (n := 9999) Tryd.underlying3 (by simp [MapKept.IsKey]) b

def zeroW : Value := .agg #[.int .i64 0, .string ByteArray.empty]
theorem zeroW_run (w : World) : (zeroValue 103).run Tryd.prog w = .ok zeroW w := by kernel_rfl

theorem MapIs.look {w : World} {m : Nat} {g : Int → Option Value} (h : MapIs w m g) (k : Int) :
    (Instr.lookup 52 (.map (some m)) (.int .i64 k) true).run Tryd.prog w = .ok (.tuple #[(g k).getD zeroW, .bool (g k).isSome]) w := by
  obtain ⟨es, clock, hb, hk, hg⟩ := h
  rcases findNow_int k es.toList 0 hk with ⟨h1, h2⟩ | ⟨j, e, h1, h2, h3, h4⟩
  · have e := hg k
    rw [h1] at e
    rw [← e]
    simp [Instr.lookup, run_underlying Tryd.underlying52, MapKept.run_getObj_map hb, checkKey_run, findKey_run k _ w _ h2, Result.andThen]
    rfl
  · have e1 := hg k
    rw [h2] at e1
    rw [← e1]
    simp [Instr.lookup, run_underlying Tryd.underlying52, MapKept.run_getObj_map hb, checkKey_run, findKey_run k _ w _ h4, Result.andThen]

theorem find_modify (k q : Int) (v : Value) : ∀ (l : List MapEntry) (j : Nat) (e : MapEntry), l[j]? = some e → e.key = .int .i64 k → (∀ n, n < j → ∀ x, l[n]? = some x → isKey k x = false) →
    ((l.modify j fun e => { e with key := .int .i64 k, val := v }).find? (isKey q)).map (·.val) = if q = k then some v else (l.find? (isKey q)).map (·.val)
  | [], j, e, h, _, _ => by simp at h
  | x :: l, 0, e, h, he, _ => by
    simp at h
    subst h
    by_cases hq : q = k
    · simp [List.modify, isKey, hq]
    · have hqk : (q == k) = false := beq_eq_false_iff_ne.2 hq
      simp [List.modify, List.find?, isKey, hq, he, hqk]
  | x :: l, j + 1, e, h, he, hn => by
    have hx := hn 0 (by omega) x rfl
    have ih := find_modify k q v l j e (by simpa using h) he (fun n hn' y hy => hn (n + 1) (by omega) y (by simpa using hy))
    simp only [List.modify_succ_cons, List.find?]
    by_cases hq : q = k
    · subst hq; rw [hx]; simpa using ih
    · rw [if_neg hq] at ih ⊢
      cases isKey q x
      · simpa using ih
      · rfl

theorem find_push (k q : Int) (v : Value) (c : Nat) (l : List MapEntry) (h : l.find? (isKey k) = none) : ((l ++ [({ key := .int .i64 k, val := v, born := c } : MapEntry)]).find? (isKey q)).map (fun e => e.val) = if q = k then some v else (l.find? (isKey q)).map (fun e => e.val) := by
  rw [List.find?_append]
  by_cases hq : q = k
  · subst hq; rw [h]; simp [isKey]
  · cases hf : l.find? (isKey q) <;> simp [isKey, hq]

/-- A store at a key: in whatever world that has the map in that block. -/
theorem MapIs.put {w : World} {m : Nat} {g : Int → Option Value} (h : MapIs w m g) (k : Int) (v : Value) :
    ∃ es clock, (∀ u : World, u.heap[m]? = w.heap[m]? → (Instr.mapUpdate 52 (.map (some m)) (.int .i64 k) v).run Tryd.prog u = .ok () (setBlock u m (.map es clock))) ∧
      ∀ u : World, u.heap[m]? = some (.map es clock) → MapIs u m (fun q => if q = k then some v else g q) := by
  obtain ⟨es, clock, hb, hk, hg⟩ := h
  rcases findNow_int k es.toList 0 hk with ⟨h1, h2⟩ | ⟨j, e, h1, h2, h3, h4⟩
  · refine ⟨es.push { key := .int .i64 k, val := v, born := clock }, clock + 1, fun u hu => ?_, fun u hu => ⟨_, _, hu, ?_, fun q => ?_⟩⟩
    · rw [hb] at hu
      simp [Instr.mapUpdate, run_underlying Tryd.underlying52, MapKept.run_getObj_map hu, checkKey_run, findKey_run k _ u _ h2, MapKept.run_setObj_map _ hu, Result.andThen, setBlock]
    · intro x hx
      rw [Array.toList_push, List.mem_append] at hx
      rcases hx with hx | hx
      · exact hk x hx
      · simp at hx; subst hx; exact ⟨k, rfl⟩
    · rw [Array.toList_push, find_push k q v clock es.toList h1, hg q]
  · have hj : es[j]? = some e := by simpa using h1
    obtain ⟨q0, hq0⟩ := hk e (List.mem_of_getElem? h1)
    have hqk : q0 = k := by
      have := List.find?_some h2
      simp [isKey, hq0] at this
      exact this.symm
    subst hqk
    refine ⟨es.modify j fun e => { e with key := .int .i64 q0, val := v }, clock, fun u hu => ?_, fun u hu => ⟨_, _, hu, ?_, fun q => ?_⟩⟩
    · rw [hb] at hu
      simp [Instr.mapUpdate, run_underlying Tryd.underlying52, MapKept.run_getObj_map hu, checkKey_run, findKey_run q0 _ u _ h4, MapKept.run_setObj_map _ hu, Result.andThen, setBlock, hj, hq0, Instr.keyThatStays, Instr.sameBits]
    · intro x hx
      rw [Array.toList_modify] at hx
      obtain ⟨n, hn⟩ := List.mem_iff_getElem?.1 hx
      rw [List.getElem?_modify] at hn
      cases hy : es.toList[n]? with
      | none => rw [hy] at hn; simp at hn
      | some y =>
        rw [hy] at hn
        simp only [Option.map_eq_map, Option.map_some, Option.some.injEq] at hn
        split at hn
        · subst hn; exact ⟨q0, rfl⟩
        · subst hn; exact hk y (List.mem_of_getElem? hy)
    · rw [Array.toList_modify, find_modify q0 q v es.toList j e h1 hq0 h3, hg q]

theorem MapIs.kept {w w' : World} {m : Nat} {g : Int → Option Value} (h : MapIs w m g) (e : w'.heap[m]? = w.heap[m]?) : MapIs w' m g := by
  obtain ⟨es, clock, hb, r⟩ := h
  exact ⟨es, clock, e.trans hb, r⟩
theorem MapIs.lt {w : World} {m : Nat} {g : Int → Option Value} (h : MapIs w m g) : m < w.heap.size := by
  obtain ⟨es, clock, hb, _⟩ := h
  exact (Array.getElem?_eq_some_iff.1 hb).1
theorem MapIs.empty {w : World} {m clock : Nat} (h : w.heap[m]? = some (.map #[] clock)) : MapIs w m (fun _ => none) := ⟨_, _, h, (fun e he => by simp at he), fun k => by simp⟩
theorem MapIs.clear {w : World} {m : Nat} {g : Int → Option Value} (h : MapIs w m g) : ∃ clock, ∀ (u : World) (ty : TypeId), u.heap[m]? = w.heap[m]? → (Builtin.clear_ #[52] ty #[.map (some m)]).run Tryd.prog u = .ok (.tuple #[]) (setBlock u m (.map #[] clock)) := by
  obtain ⟨es, clock, hb, _⟩ := h
  refine ⟨clock, fun u ty hu => ?_⟩
  rw [hb] at hu
  simp [Builtin.clear_, run_underlying Tryd.underlying52, MapKept.run_getObj_map hu, MapKept.run_setObj_map _ hu, Result.andThen, setBlock]

theorem setBlock_same {w : World} {m : Nat} (h : m < w.heap.size) (o : Obj) : (setBlock w m o).heap[m]? = some o := by simp [setBlock, h]
theorem setBlock_other (w : World) {m k : Nat} (h : k ≠ m) (o : Obj) : (setBlock w m o).heap[k]? = w.heap[k]? := by simp [setBlock, Ne.symm h]

def flatW (l : List Wr) : List Value := l.flatMap fun p => [.int .i64 p.1, .string p.2]
theorem flatW_length : ∀ l, (flatW l).length = l.length * 2
  | [] => rfl
  | p :: l => by
    have ih := flatW_length l
    have e : flatW (p :: l) = .int .i64 p.1 :: .string p.2 :: flatW l := rfl
    rw [e, List.length_cons, List.length_cons, ih, List.length_cons]; omega
theorem flatW_snoc (l : List Wr) (p : Wr) : flatW (l ++ [p]) = flatW l ++ [.int .i64 p.1, .string p.2] := by simp [flatW]
theorem flatW_get : ∀ (l : List Wr) (k : Nat), k < l.length → (flatW l)[k * 2]? = some (.int .i64 (wAt l k).1) ∧ (flatW l)[k * 2 + 1]? = some (.string (wAt l k).2)
  | [], k, h => by simp at h
  | p :: l, 0, _ => by simp [flatW, wAt]
  | p :: l, k + 1, h => by
    have ih := flatW_get l k (by simpa using h)
    have e : flatW (p :: l) = .int .i64 p.1 :: .string p.2 :: flatW l := rfl
    rw [e, show (k + 1) * 2 = k * 2 + 1 + 1 by omega]
    simpa [wAt] using ih

def mapOf (pend : List Wr) (k : Int) : Option Value := if k < 0 then none else (lastTo pend k.toNat pend.length).map fun s => .agg #[.int .i64 k, .string s]
theorem mapOf_nil : mapOf [] = fun _ => none := by funext k; simp [mapOf, lastTo]
theorem mapOf_snoc (l : List Wr) (i : Nat) (s : ByteArray) : (fun q : Int => if q = i then some (.agg #[.int .i64 i, .string s]) else mapOf l q) = mapOf (l ++ [(i, s)]) := by
  funext q
  by_cases hq : q = i
  · subst hq
    rw [if_pos rfl]
    unfold mapOf
    rw [if_neg (by omega), Int.toNat_natCast, lastTo_snoc, if_pos rfl]
    rfl
  · rw [if_neg hq]
    unfold mapOf
    split
    · rfl
    · rw [lastTo_snoc, if_neg (by simp; omega)]

/-- A disk in its blocks. -/
structure Mem (w : World) (b m g : Nat) (pv : Value) (br : Bool) (lf : Int) (d : Dk) : Prop where
  blk : w.heap[b]? = some (.cells #[.slice (some ⟨g, 0, none⟩) d.sure.length d.sure.length, pv, .map (some m), .bool br, .int .i64 lf, .bool d.down, .int .i64 d.reads, .int .i64 d.writes] 60 (0, 0))
  row : w.heap[g]? = some (.cells (d.sure.map Value.string).toArray 9 (0, 0))
  pnd : w.ownsRow 0 103 2 pv d.pend.length (flatW d.pend)
  map : MapIs w m (mapOf d.pend)
  enc : d.down = false → (d.brk = none ∧ br = false) ∨ ∃ k : Nat, d.brk = some k ∧ br = true ∧ lf = k
  ok : d.Ok
  bg : b ≠ g
  bm : b ≠ m
  gm : g ≠ m
  pb : pv.ownBlock ≠ some b
  pg : pv.ownBlock ≠ some g
  pm : pv.ownBlock ≠ some m

/-- All but the blocks of X is as it was. -/
structure Turn (X : Nat → Prop) (w w' : World) : Prop where
  os : w'.os = w.os
  tape : w'.tape = w.tape
  output : w'.output = w.output
  size : w.heap.size ≤ w'.heap.size
  block : ∀ k, k < w.heap.size → ¬ X k → w'.heap[k]? = w.heap[k]?

/-- A disk whose blocks are all in X. -/
def Mine (X : Nat → Prop) (w : World) (b : Nat) (d : Dk) : Prop :=
  (∃ m g pv br lf, Mem w b m g pv br lf d ∧ X b ∧ X m ∧ X g ∧ ∀ k, pv.ownBlock = some k → X k) ∧ ∀ k, X k → k < w.heap.size

theorem Turn.refl (X : Nat → Prop) (w : World) : Turn X w w := ⟨rfl, rfl, rfl, Nat.le_refl _, fun _ _ _ => rfl⟩
theorem Turn.trans {X Y : Nat → Prop} {u v w : World} (h : Turn X u v) (k : Turn Y v w) (hY : ∀ k, Y k → X k ∨ u.heap.size ≤ k) : Turn X u w :=
  ⟨k.os.trans h.os, k.tape.trans h.tape, k.output.trans h.output, Nat.le_trans h.size k.size, fun i hi hx => (k.block i (Nat.lt_of_lt_of_le hi h.size) (fun hy => (hY i hy).elim hx (fun h1 => by omega))).trans (h.block i hi hx)⟩
theorem Turn.drew (X : Nat → Prop) (w : World) : Turn X w w.drew := ⟨rfl, rfl, rfl, Nat.le_refl _, fun _ _ _ => rfl⟩
theorem Turn.alloc (X : Nat → Prop) (w : World) (o : Obj) : Turn X w (w.alloc o) := ⟨rfl, rfl, rfl, by simp, fun k hk _ => Below.heap_alloc _ _ _ hk⟩
theorem Turn.setCell {X : Nat → Prop} (w : World) {b o : Nat} (hb : X b) (v : Value) : Turn X w (w.setCell ⟨b, o, none⟩ v) :=
  ⟨rfl, rfl, rfl, by simp [World.setCell], fun k _ hx => Below.heap_setCell _ _ _ _ (fun e => hx (by rw [e]; exact hb))⟩
theorem Turn.setBlock {X : Nat → Prop} (w : World) {b : Nat} (hb : X b) (o : Obj) : Turn X w (setBlock w b o) :=
  ⟨rfl, rfl, rfl, by simp [Go.ChangeMaps.setBlock], fun k _ hx => setBlock_other w (fun e => hx (by rw [e]; exact hb)) o⟩
theorem Turn.grown {X : Nat → Prop} {w w' : World} {row : Option Nat} (h : w.grownBy w' row) (hX : ∀ k, row = some k → X k) : Turn X w w' :=
  ⟨h.os, h.tape, h.output, h.size, fun k hk hx => h.block k hk (fun e => hx (hX k e.symm))⟩
theorem Turn.of_below {X : Nat → Prop} {w w' : World} (h : Below w.heap.size w w') : Turn X w w' := ⟨h.os, h.tape, h.output, h.size, fun k hk _ => h.block k hk⟩
theorem Turn.below {X : Nat → Prop} {B : Nat} {a w w' : World} (hb : Below B a w) (h : Turn X w w') (hB : B ≤ w.heap.size) (hX : ∀ k, X k → B ≤ k) : Below B a w' :=
  hb.trans ⟨h.os, h.tape, h.output, h.size, fun k hk => h.block k (by omega) (fun hx => by have := hX k hx; omega)⟩

theorem ownsRow_kept' {w w' : World} {base : Nat} {e : TypeId} {size : Nat} {v : Value} {n : Nat} {xs : List Value} (h : w.ownsRow base e size v n xs) (hk : ∀ k, v.ownBlock = some k → w'.heap[k]? = w.heap[k]?) : w'.ownsRow base e size v n xs := by
  refine ⟨h.1, ?_⟩
  rcases h.2 with hn | ⟨g, cap, cur, rfl, hb, hg, rest⟩
  · exact .inl hn
  · exact .inr ⟨g, cap, cur, rfl, hb, (hk g rfl).trans hg, rest⟩

theorem Mem.kept {w w' : World} {b m g : Nat} {pv : Value} {br : Bool} {lf : Int} {d : Dk} (h : Mem w b m g pv br lf d) (hb : w'.heap[b]? = w.heap[b]?) (hm : w'.heap[m]? = w.heap[m]?) (hg : w'.heap[g]? = w.heap[g]?) (hp : ∀ k, pv.ownBlock = some k → w'.heap[k]? = w.heap[k]?) : Mem w' b m g pv br lf d :=
  ⟨hb.trans h.blk, hg.trans h.row, ownsRow_kept' h.pnd hp, h.map.kept hm, h.enc, h.ok, h.bg, h.bm, h.gm, h.pb, h.pg, h.pm⟩
theorem Mem.pk {w : World} {b m g : Nat} {pv : Value} {br : Bool} {lf : Int} {d : Dk} (h : Mem w b m g pv br lf d) {k : Nat} (hk : pv.ownBlock = some k) : k < w.heap.size ∧ k ≠ b ∧ k ≠ g ∧ k ≠ m :=
  ⟨(h.pnd.lt k hk).2, fun e => h.pb (by rw [hk, e]), fun e => h.pg (by rw [hk, e]), fun e => h.pm (by rw [hk, e])⟩
theorem Mem.bl {w : World} {b m g : Nat} {pv : Value} {br : Bool} {lf : Int} {d : Dk} (h : Mem w b m g pv br lf d) : b < w.heap.size := (Array.getElem?_eq_some_iff.1 h.blk).1
theorem Mem.gl {w : World} {b m g : Nat} {pv : Value} {br : Bool} {lf : Int} {d : Dk} (h : Mem w b m g pv br lf d) : g < w.heap.size := (Array.getElem?_eq_some_iff.1 h.row).1
/-- A disk is not touched by what turns other blocks. -/
theorem Mine.kept {X Y : Nat → Prop} {w w' : World} {b : Nat} {d : Dk} (h : Mine Y w b d) (t : Turn X w w') (hd : ∀ k, Y k → ¬ X k) : Mine Y w' b d := by
  obtain ⟨⟨m, g, pv, br, lf, hM, yb, ym, yg, yp⟩, hl⟩ := h
  have k1 : ∀ k, Y k → w'.heap[k]? = w.heap[k]? := fun k hk => t.block k (hl k hk) (hd k hk)
  exact ⟨⟨m, g, pv, br, lf, hM.kept (k1 _ yb) (k1 _ ym) (k1 _ yg) (fun k hk => k1 k (yp k hk)), yb, ym, yg, yp⟩, fun k hk => Nat.lt_of_lt_of_le (hl k hk) t.size⟩
end

/-! Small -/
section
open Go.RowKit
set_option linter.unusedVariables false
open Go.ChangeMaps (setBlock)

abbrev ptr (b : Nat) : Value := .pointer (some ⟨b, 0, none⟩)
theorem ret_boolD {a b : Bool} (h : a = b) : Ending.returned (.bool a) = .returned (.bool b) := by rw [h]
theorem ret_intD {k : IntKind} {a b : Int} (h : a = b) : Ending.returned (.int k a) = .returned (.int k b) := by rw [h]
theorem ret_str {a b : ByteArray} (h : a = b) : Ending.returned (.string a) = .returned (.string b) := by rw [h]

section
variable {w : World} {b m g : Nat} {pv : Value} {br : Bool} {lf : Int} {d : Dk}
theorem Mem.c0 (h : Mem w b m g pv br lf d) : w.cell? ⟨b, 0, none⟩ = some (.slice (some ⟨g, 0, none⟩) d.sure.length d.sure.length) := by simp [World.cell?, h.blk]
theorem Mem.c1 (h : Mem w b m g pv br lf d) : w.cell? ⟨b, 1, none⟩ = some pv := by simp [World.cell?, h.blk]
theorem Mem.c2 (h : Mem w b m g pv br lf d) : w.cell? ⟨b, 2, none⟩ = some (.map (some m)) := by simp [World.cell?, h.blk]
theorem Mem.c3 (h : Mem w b m g pv br lf d) : w.cell? ⟨b, 3, none⟩ = some (.bool br) := by simp [World.cell?, h.blk]
theorem Mem.c4 (h : Mem w b m g pv br lf d) : w.cell? ⟨b, 4, none⟩ = some (.int .i64 lf) := by simp [World.cell?, h.blk]
theorem Mem.c5 (h : Mem w b m g pv br lf d) : w.cell? ⟨b, 5, none⟩ = some (.bool d.down) := by simp [World.cell?, h.blk]
theorem Mem.c6 (h : Mem w b m g pv br lf d) : w.cell? ⟨b, 6, none⟩ = some (.int .i64 d.reads) := by simp [World.cell?, h.blk]
theorem Mem.c7 (h : Mem w b m g pv br lf d) : w.cell? ⟨b, 7, none⟩ = some (.int .i64 d.writes) := by simp [World.cell?, h.blk]
theorem Mem.fz (h : Mem w b m g pv br lf d) (o : Nat) : w.frozen? ⟨b, o, none⟩ = false := by simp [World.frozen?, h.blk]
theorem Mem.pv_slice (h : Mem w b m g pv br lf d) : ∃ ao c, pv = .slice ao d.pend.length c := by
  rcases h.pnd.2 with ⟨h1, h2⟩ | ⟨x, cap, cur, h1, _⟩
  · exact ⟨_, _, by rw [h1, h2]⟩
  · exact ⟨_, _, h1⟩

set_option maxHeartbeats 400000 in
theorem down_m (h : Mem w b m g pv br lf d) : Calls Tryd.prog 48 #[ptr b] w fun e w' => e = .returned (.bool d.down) ∧ w = w' := by
  have c5 := h.c5; have lt := h.bl
  clear h
  go_enter Tryd.func48, Tryd.ntmps48
  go_wp2
  go_ret
  exact ⟨rfl, rfl⟩

set_option maxHeartbeats 400000 in
theorem sectors_m (h : Mem w b m g pv br lf d) : Calls Tryd.prog 68 #[ptr b] w fun e w' => e = .returned (.int .i64 d.sure.length) ∧ w = w' := by
  have c0 := h.c0; have lt := h.bl
  clear h
  go_enter Tryd.func68, Tryd.ntmps68
  go_wp2
  go_ret
  exact ⟨rfl, rfl⟩

set_option maxHeartbeats 400000 in
theorem has_m (h : Mem w b m g pv br lf d) (i : Int) : Calls Tryd.prog 49 #[ptr b, .int .i64 i] w fun e w' => e = .returned (.bool (d.has i)) ∧ w = w' := by
  have C : Hid (Calls Tryd.prog 68 #[ptr b] w fun e w' => e = .returned (.int .i64 d.sure.length) ∧ w = w') := sectors_m h
  have lt := h.bl
  clear h
  by_cases h0 : 0 ≤ i
  · go_enter Tryd.func49, Tryd.ntmps49
    go_wp2_with fail
    refine Calls.mono C.out ?_
    rintro e w1 ⟨rfl, rfl⟩
    go_wp2
    go_ret
    exact ⟨ret_boolD (by unfold Dk.has; simp [h0]), rfl⟩
  · have h1 : i < 0 := by omega
    go_enter Tryd.func49, Tryd.ntmps49
    go_wp2
    go_ret
    exact ⟨ret_boolD (by unfold Dk.has; simp; omega), rfl⟩

theorem Mem.cellG (h : Mem w b m g pv br lf d) {i : Nat} (hi : i < d.sure.length) : w.cell? ⟨g, i, none⟩ = some (.string (sAt d.sure i)) := by
  simp [World.cell?, h.row, hi, sAt]
theorem Mem.fzG (h : Mem w b m g pv br lf d) (o : Nat) : w.frozen? ⟨g, o, none⟩ = false := by simp [World.frozen?, h.row]

set_option maxHeartbeats 400000 in
theorem load_m (o : Nat) (x : Int) (c : w.cell? ⟨b, o, none⟩ = some (.int .i64 x)) : Calls Tryd.prog 26 #[.pointer (some ⟨b, o, none⟩)] w fun e w' => e = .returned (.int .i64 x) ∧ w = w' := by
  have hl := run_call_load (P := Tryd.prog) Tryd.func44 (by kernel_rfl) (by kernel_rfl) (by kernel_rfl) .i64 (by kernel_rfl) c
  go_enter Tryd.func26, Tryd.ntmps26
  go_wp2
  go_ret
  exact ⟨rfl, rfl⟩

set_option maxHeartbeats 400000 in
theorem add_m (o : Nat) (x y : Int) (c : w.cell? ⟨b, o, none⟩ = some (.int .i64 x)) (f : w.frozen? ⟨b, o, none⟩ = false) : Calls Tryd.prog 50 #[.pointer (some ⟨b, o, none⟩), .int .i64 y] w fun e w' => e = .returned (.int .i64 (wrap64 (x + y))) ∧ w' = w.setCell ⟨b, o, none⟩ (.int .i64 (wrap64 (x + y))) := by
  have hl := run_call_add (P := Tryd.prog) Tryd.func70 (by kernel_rfl) (by kernel_rfl) (by kernel_rfl) .i64 (by kernel_rfl) (y := y) (s := wrap64 (x + y)) c f (by simp [go_sem, wrap64, IntKind.wrap_i64])
  go_enter Tryd.func50, Tryd.ntmps50
  go_wp2
  go_ret
  exact ⟨rfl, rfl⟩

set_option maxHeartbeats 400000 in
theorem reads_m (h : Mem w b m g pv br lf d) : Calls Tryd.prog 18 #[ptr b] w fun e w' => e = .returned (.int .i64 d.reads) ∧ w = w' := by
  have C : Hid (Calls Tryd.prog 26 #[.pointer (some ⟨b, 6, none⟩)] w fun e w' => e = .returned (.int .i64 d.reads) ∧ w = w') := load_m 6 _ h.c6
  have lt := h.bl; have c6 := h.c6
  clear h
  go_enter Tryd.func18, Tryd.ntmps18
  go_wp2_with fail
  refine Calls.mono C.out ?_
  rintro e w1 ⟨rfl, rfl⟩
  go_wp2
  go_ret
  exact ⟨rfl, rfl⟩

set_option maxHeartbeats 400000 in
theorem writes_m (h : Mem w b m g pv br lf d) : Calls Tryd.prog 11 #[ptr b] w fun e w' => e = .returned (.int .i64 d.writes) ∧ w = w' := by
  have C : Hid (Calls Tryd.prog 26 #[.pointer (some ⟨b, 7, none⟩)] w fun e w' => e = .returned (.int .i64 d.writes) ∧ w = w') := load_m 7 _ h.c7
  have lt := h.bl; have c7 := h.c7
  clear h
  go_enter Tryd.func11, Tryd.ntmps11
  go_wp2_with fail
  refine Calls.mono C.out ?_
  rintro e w1 ⟨rfl, rfl⟩
  go_wp2
  go_ret
  exact ⟨rfl, rfl⟩

end
end

/-! Chg -/
section
open Go.RowKit
set_option linter.unusedVariables false
open Go.ChangeMaps (setBlock)

/-- Nothing has turned but block b; no block came. -/
structure OnlyD (b : Nat) (w w' : World) : Prop where
  os : w'.os = w.os
  tape : w'.tape = w.tape
  output : w'.output = w.output
  size : w'.heap.size = w.heap.size
  block : ∀ k, k ≠ b → w'.heap[k]? = w.heap[k]?
theorem OnlyD.refl (b : Nat) (w : World) : OnlyD b w w := ⟨rfl, rfl, rfl, rfl, fun _ _ => rfl⟩
theorem OnlyD.trans {b : Nat} {u v w : World} (h : OnlyD b u v) (k : OnlyD b v w) : OnlyD b u w :=
  ⟨k.os.trans h.os, k.tape.trans h.tape, k.output.trans h.output, k.size.trans h.size, fun i hi => (k.block i hi).trans (h.block i hi)⟩
theorem OnlyD.setCell (b o : Nat) (w : World) (v : Value) : OnlyD b w (w.setCell ⟨b, o, none⟩ v) :=
  ⟨rfl, rfl, rfl, by simp [World.setCell], fun k hk => Below.heap_setCell _ _ _ _ hk⟩
theorem OnlyD.setBlock (b : Nat) (w : World) (o : Obj) : OnlyD b w (setBlock w b o) :=
  ⟨rfl, rfl, rfl, by simp [Go.ChangeMaps.setBlock], fun k hk => setBlock_other w hk o⟩
theorem OnlyD.drew {b : Nat} {u w : World} (h : OnlyD b u w) : OnlyD b u w.drew := ⟨h.os, h.tape, h.output, h.size, h.block⟩
theorem OnlyD.turn {X : Nat → Prop} {b : Nat} {w w' : World} (h : OnlyD b w w') (hX : X b) : Turn X w w' :=
  ⟨h.os, h.tape, h.output, Nat.le_of_eq h.size.symm, fun k _ hx => h.block k (fun e => hx (by rw [e]; exact hX))⟩

section
variable {w w' : World} {b m g : Nat} {pv : Value} {br : Bool} {lf : Int} {d : Dk}
/-- The disk's own block has turned: what is sure and what is pending has not. -/
theorem Mem.upd (h : Mem w b m g pv br lf d) (o : OnlyD b w w') {br' : Bool} {lf' : Int} {d' : Dk} (hs : d'.sure = d.sure) (hp : d'.pend = d.pend)
    (hb : w'.heap[b]? = some (.cells #[.slice (some ⟨g, 0, none⟩) d.sure.length d.sure.length, pv, .map (some m), .bool br', .int .i64 lf', .bool d'.down, .int .i64 d'.reads, .int .i64 d'.writes] 60 (0, 0)))
    (enc : d'.down = false → (d'.brk = none ∧ br' = false) ∨ ∃ k : Nat, d'.brk = some k ∧ br' = true ∧ lf' = k) (ok : d'.Ok) : Mem w' b m g pv br' lf' d' :=
  ⟨by rw [hs]; exact hb, by rw [hs]; exact (o.block g h.bg.symm).trans h.row, by rw [hp]; exact ownsRow_kept' h.pnd (fun k hk => o.block k (h.pk hk).2.1), by rw [hp]; exact h.map.kept (o.block m h.bm.symm), enc, ok, h.bg, h.bm, h.gm, h.pb, h.pg, h.pm⟩

/-- A disk in its blocks, whatever stands in its fields of a Break. -/
def MemD (w : World) (b m g : Nat) (pv : Value) (d : Dk) : Prop := ∃ br lf, Mem w b m g pv br lf d

theorem Mem.set6 (h : Mem w b m g pv br lf d) (x : Int) : Mem (w.setCell ⟨b, 6, none⟩ (.int .i64 x)) b m g pv br lf { d with reads := x } :=
  h.upd (OnlyD.setCell b 6 w _) rfl rfl (by simp [World.setCell, Array.getElem?_modify, h.blk]) h.enc ⟨h.ok.len, h.ok.sz, h.ok.pd, h.ok.brk⟩
theorem Mem.set7 (h : Mem w b m g pv br lf d) (x : Int) : Mem (w.setCell ⟨b, 7, none⟩ (.int .i64 x)) b m g pv br lf { d with writes := x } :=
  h.upd (OnlyD.setCell b 7 w _) rfl rfl (by simp [World.setCell, Array.getElem?_modify, h.blk]) h.enc ⟨h.ok.len, h.ok.sz, h.ok.pd, h.ok.brk⟩

set_option maxHeartbeats 400000 in
theorem countDown_m (h : Mem w b m g pv br lf d) (hd : d.down = false) : Calls Tryd.prog 51 #[ptr b] w fun e w' => e = .returned (.tuple #[]) ∧ OnlyD b w w' ∧ MemD w' b m g pv d.tick.2 := by
  have H : Hid (Mem w b m g pv br lf d) := h
  have c3 := h.c3; have c4 := h.c4; have c5 := h.c5; have f4 := h.fz 4; have f5 := h.fz 5; have lt := h.bl
  rcases h.enc hd with ⟨e1, rfl⟩ | ⟨k, e1, rfl, rfl⟩
  · have HT : Hid (d.tick.2 = d) := by show d.tick.2 = d; unfold Dk.tick; rw [e1]
    clear h e1 hd
    go_enter Tryd.func51, Tryd.ntmps51
    go_wp2
    go_end0
    exact ⟨rfl, OnlyD.refl _ _, false, lf, by rw [HT.out]; exact H.out⟩
  · cases k with
    | zero =>
      have HT : Hid (d.tick.2 = { d with down := true, brk := none }) := by show d.tick.2 = _; unfold Dk.tick; rw [e1]
      clear h e1 hd
      go_enter Tryd.func51, Tryd.ntmps51
      go_wp2
      go_end0
      refine ⟨rfl, OnlyD.setCell b 5 w _, true, 0, ?_⟩
      rw [HT.out]
      exact H.out.upd (OnlyD.setCell b 5 w _) rfl rfl (by simp [World.setCell, Array.getElem?_modify, H.out.blk]) (fun h => by cases h) ⟨H.out.ok.len, H.out.ok.sz, H.out.ok.pd, (fun k hk => by cases hk)⟩
    | succ k =>
      have HT : Hid (d.tick.2 = { d with brk := some k }) := by show d.tick.2 = _; unfold Dk.tick; rw [e1]
      have HK : Hid (k + 1 ≤ 9223372036854775807) := h.ok.brk _ e1
      have HD : Hid (d.down = false) := hd
      have hk := HK.out
      have gt : (0 : Int) < ((k + 1 : Nat) : Int) := by omega
      clear h e1 hd
      have ew : wrap64 (((k + 1 : Nat) : Int) - 1) = (k : Int) := by unfold wrap64; omega
      go_enter Tryd.func51, Tryd.ntmps51
      go_wp2
      go_end0
      refine ⟨rfl, OnlyD.setCell b 4 w _, true, k, ?_⟩
      rw [HT.out]
      refine H.out.upd (OnlyD.setCell b 4 w _) rfl rfl ?_ (fun h => .inr ⟨k, rfl, rfl, rfl⟩) ⟨H.out.ok.len, H.out.ok.sz, H.out.ok.pd, (fun j hj => by cases hj; omega)⟩
      simp [World.setCell, Array.getElem?_modify, H.out.blk]

def BrkD (w : World) (b m g : Nat) (pv : Value) (d : Dk) (n : Int) : Prop := ∃ lf, Mem w b m g pv (decide (0 ≤ n)) lf (d.stop n)

theorem set_strings (l : List ByteArray) (i : Nat) (s : ByteArray) : ((l.map Value.string).toArray.setIfInBounds i (.string s)) = ((l.set i s).map Value.string).toArray := by
  simp [List.map_set]

theorem Mem.setG (h : Mem w b m g pv br lf d) (i : Nat) (hi : i < d.sure.length) (s : ByteArray) (hs : s.size = 256) : Mem (w.setCell ⟨g, i, none⟩ (.string s)) b m g pv br lf { d with sure := d.sure.set i s } := by
  have k : ∀ j, j ≠ g → (w.setCell ⟨g, i, none⟩ (.string s)).heap[j]? = w.heap[j]? := fun j hj => Below.heap_setCell _ _ _ _ hj
  refine ⟨?_, ?_, ownsRow_kept' h.pnd (fun j hj => k j (h.pk hj).2.2.1), h.map.kept (k m h.gm.symm), h.enc, ⟨?_, set_sizes h.ok.sz hs, ?_, h.ok.brk⟩, h.bg, h.bm, h.gm, h.pb, h.pg, h.pm⟩
  · rw [k b h.bg, h.blk]; simp
  · simp only [World.setCell, Array.getElem?_modify, h.row]
    simp
  · simpa using h.ok.len
  · intro p hp; simpa using h.ok.pd p hp

theorem Mem.alloc (h : Mem w b m g pv br lf d) (o : Obj) : Mem (w.alloc o) b m g pv br lf d :=
  h.kept (Below.heap_alloc _ _ _ h.bl) (Below.heap_alloc _ _ _ h.map.lt) (Below.heap_alloc _ _ _ h.gl) (fun k hk => Below.heap_alloc _ _ _ (h.pk hk).1)
theorem Mem.drew (h : Mem w b m g pv br lf d) : Mem w.drew b m g pv br lf d := h.kept rfl rfl rfl (fun _ _ => rfl)

end
end

/-! Read -/
section
open Go.RowKit
set_option linter.unusedVariables false
open Go.ChangeMaps (setBlock)
section
variable {w w' : World} {b m g : Nat} {pv : Value} {br : Bool} {lf : Int} {d : Dk}

set_option maxHeartbeats 1000000 in
theorem read_m (h : Mem w b m g pv br lf d) (i : Int) : Calls Tryd.prog 80 #[ptr b, .int .i64 i] w fun e w' => e = .returned (.tuple #[.string (d.get i).1.1, .int .i64 (d.get i).1.2]) ∧ Turn (fun k => k = b) w w' ∧ MemD w' b m g pv (d.get i).2 := by
  have H : Hid (Mem w b m g pv br lf d) := h
  have C1 : Hid (Calls Tryd.prog 48 #[ptr b] w fun e w' => e = .returned (.bool d.down) ∧ w = w') := down_m h
  have C2 : Hid (Calls Tryd.prog 49 #[ptr b, .int .i64 i] w fun e w' => e = .returned (.bool (d.has i)) ∧ w = w') := has_m h i
  have lt := h.bl
  have hl := h.ok.len
  by_cases hd : d.down = true
  · have HG : Hid (d.get i = ((ByteArray.empty, 4), d)) := by show d.get i = _; unfold Dk.get; rw [if_pos hd]
    clear h
    go_enter Tryd.func80, Tryd.ntmps80
    go_wp2_with fail
    refine Calls.mono C1.out ?_
    rintro e w1 ⟨rfl, rfl⟩
    go_wp2
    go_ret2
    rw [HG.out]
    exact ⟨rfl, Turn.refl _ _, br, lf, H.out⟩
  · have hf : d.down = false := by simpa using hd
    by_cases hi : d.has i = true
    · have HG : Hid (d.get i = ((d.now i.toNat, 0), { d with reads := wrap64 (d.reads + 1) })) := by show d.get i = _; unfold Dk.get; rw [if_neg hd, if_pos hi]
      obtain ⟨h0, h1⟩ := of_decide_eq_true hi
      obtain ⟨n, rfl⟩ : ∃ n : Nat, i = n := ⟨i.toNat, by omega⟩
      have hn : n < d.sure.length := by omega
      have C3 : Hid (Calls Tryd.prog 50 #[.pointer (some ⟨b, 6, none⟩), .int .i64 1] w fun e w' => e = .returned (.int .i64 (wrap64 (d.reads + 1))) ∧ w' = w.setCell ⟨b, 6, none⟩ (.int .i64 (wrap64 (d.reads + 1)))) := add_m 6 _ _ h.c6 (h.fz 6)
      obtain ⟨w2, e2⟩ : ∃ w2, w2 = w.setCell ⟨b, 6, none⟩ (.int .i64 (wrap64 (d.reads + 1))) := ⟨_, rfl⟩
      have h2 : Mem w2 b m g pv br lf { d with reads := wrap64 (d.reads + 1) } := by rw [e2]; exact h.set6 _
      have H2 : Hid (Mem w2 b m g pv br lf { d with reads := wrap64 (d.reads + 1) }) := h2
      have T2 : Hid (Turn (fun k => k = b) w w2) := by show Turn _ _ _; rw [e2]; exact Turn.setCell (X := fun k => k = b) w rfl _
      rw [← e2] at C3
      have c0 := h2.c0; have c2 := h2.c2; have lt2 := h2.bl; have gl2 := h2.gl; have cg := h2.cellG (i := n) hn
      have hlk := h2.map.look n
      have HN : Hid (d.now (n : Int).toNat = (lastTo d.pend n d.pend.length).getD (sAt d.sure n)) := nowTo_last _ _ _ _
      have em : mapOf d.pend n = (lastTo d.pend n d.pend.length).map fun s => .agg #[.int .i64 n, .string s] := by unfold mapOf; rw [if_neg (by omega)]; rfl
      clear h h2 e2
      cases hlast : lastTo d.pend n d.pend.length with
      | none =>
        rw [hlast] at em HN
        rw [em] at hlk
        have HLK : (Instr.lookup 52 (.map (some m)) (.int .i64 n) true).run Tryd.prog w2 = .ok (.tuple #[.agg #[.int .i64 0, .string ByteArray.empty], .bool false]) w2 := hlk
        clear hlast em hlk
        go_enter Tryd.func80, Tryd.ntmps80
        go_wp2_with fail
        refine Calls.mono C1.out ?_
        rintro e w1 ⟨rfl, rfl⟩
        go_wp2_with fail
        refine Calls.mono C2.out ?_
        rintro e w1 ⟨rfl, rfl⟩
        go_wp2_with fail
        refine Calls.mono C3.out ?_
        rintro e w1 ⟨rfl, rfl⟩
        go_wp2
        go_ret2
        rw [HG.out]
        refine ⟨?_, T2.out.trans (Turn.alloc (fun k => k = b) _ _) (fun _ hk => .inl hk), br, lf, H2.out.alloc _⟩
        rw [HN.out]; rfl
      | some s =>
        rw [hlast] at em HN
        rw [em] at hlk
        have HLK : (Instr.lookup 52 (.map (some m)) (.int .i64 n) true).run Tryd.prog w2 = .ok (.tuple #[.agg #[.int .i64 n, .string s], .bool true]) w2 := hlk
        clear hlast em hlk
        go_enter Tryd.func80, Tryd.ntmps80
        go_wp2_with fail
        refine Calls.mono C1.out ?_
        rintro e w1 ⟨rfl, rfl⟩
        go_wp2_with fail
        refine Calls.mono C2.out ?_
        rintro e w1 ⟨rfl, rfl⟩
        go_wp2_with fail
        refine Calls.mono C3.out ?_
        rintro e w1 ⟨rfl, rfl⟩
        go_wp2
        go_ret2
        rw [HG.out]
        refine ⟨?_, T2.out.trans (Turn.alloc (fun k => k = b) _ _) (fun _ hk => .inl hk), br, lf, H2.out.alloc _⟩
        rw [HN.out]; rfl
    · have hif : d.has i = false := by simpa using hi
      have HG : Hid (d.get i = ((ByteArray.empty, 40), d)) := by show d.get i = _; unfold Dk.get; rw [if_neg hd, if_neg hi]
      clear h
      go_enter Tryd.func80, Tryd.ntmps80
      go_wp2_with fail
      refine Calls.mono C1.out ?_
      rintro e w1 ⟨rfl, rfl⟩
      go_wp2_with fail
      refine Calls.mono C2.out ?_
      rintro e w1 ⟨rfl, rfl⟩
      go_wp2
      go_ret2
      rw [HG.out]
      exact ⟨rfl, Turn.refl _ _, br, lf, H.out⟩

end
end

/-! Write -/
section
open Go.RowKit
set_option linter.unusedVariables false
open Go.ChangeMaps (setBlock)
section
variable {w w' : World} {b m g : Nat} {pv : Value} {br : Bool} {lf : Int} {d : Dk}

theorem infoWrite : (Tryd.prog.info? 103).map (fun i => (i.zero, i.size, i.bytes)) = some (some (.agg #[.int .i64 0, .string ByteArray.empty]), 2, 24) := by kernel_rfl

/-- append of one write, as one step of a region that draws: the new row lies where the old one did, or is new. -/
theorem step_write {ops : Array Oper} {o : Oper} {a : Act} {w : World} {K : Act → World → Prop} {Q : Exit → Act → World → Prop} {E : Prop}
    (hg : o.guard = none) (s x : Operand) (hop : o.op = Op.call { callee := Callee.builtin Builtin.append, args := #[s, x], argTypes := #[53, 53] })
    (v : Value) (l : List Wr) (hs : a.eval s = v) (hown : w.ownsRow 0 103 2 v l.length (flatW l)) (r c : Nat) (hx : a.eval x = .slice (some ⟨r, 0, none⟩) 1 c) (p : Wr)
    (c0 : w.cell? ⟨r, 0, none⟩ = some (.int .i64 p.1)) (c1 : w.cell? ⟨r, 1, none⟩ = some (.string p.2)) (hl : l.length < 100000)
    (hK : ∀ ao n' c' w', w'.ownsRow 0 103 2 (.slice ao n' c') (l ++ [p]).length (flatW (l ++ [p])) → w.grownBy w' v.ownBlock → ((Value.slice ao n' c').ownBlock = v.ownBlock ∨ (Value.slice ao n' c').ownBlock = some w.heap.size) → K (a.put o.dst (.slice ao n' c')) w') :
    if Region.wanted o (yielded ops a.tmps) = true then Oper.wp Tryd.prog o a w K Q else E := by
  have hw : Region.wanted o (yielded ops a.tmps) = true := by simp [Region.wanted, hg]
  rw [if_pos hw]
  obtain ⟨i0, hi, hz0, hz1, hz2⟩ := info_parts infoWrite
  obtain ⟨v', w', hr, h2, h3, h4, h5⟩ := run_append_own_at (P := Tryd.prog) w 0 53 o.type 103 i0 _ 2 24 Tryd.underlying53 hi hz0 hz1 hz2 rfl (by decide) v l.length (flatW l) hown ⟨r, 0, none⟩ 1 c [.int .i64 p.1, .string p.2] rfl (fun j u hj => by
    match j, hj with
    | 0, hj => simp at hj; subst hj; exact c0
    | 1, hj => simp at hj; subst hj; exact c1
    | j + 2, hj => simp at hj) (fun u hu => by simp at hu; rcases hu with rfl | rfl <;> rfl) (by unfold maxLen; omega) (by omega) (Nat.zero_le _)
  unfold Oper.wp
  simp [execOp, hop, resolve, invoke, builtin, hs, hx, hr, Result.andThen]
  obtain ⟨ao, n', c', rfl⟩ : ∃ ao n c, v' = .slice ao n c := by
    rcases h2.2 with ⟨h, _⟩ | ⟨g, cap, cur, h, _⟩
    · exact ⟨_, _, _, h⟩
    · exact ⟨_, _, _, h⟩
  refine hK ao n' c' w' ?_ h3 h5
  rw [flatW_snoc]
  simpa using h2

abbrev bx (n : Nat) (s : ByteArray) : Obj := .cells #[.int .i64 n, .string s] 103

theorem write_mid {w2 : World} {v' : Value} (h : Mem w b m g pv br lf d) (n : Nat) (hn : n < d.sure.length) (s : ByteArray) (hs : s.size = 256) (hG : ((w.alloc (bx n s)).alloc (bx n s)).drew.grownBy w2 pv.ownBlock)
    (hO : w2.ownsRow 0 103 2 v' (d.pend ++ [(n, s)]).length (flatW (d.pend ++ [(n, s)]))) (hL : v'.ownBlock = pv.ownBlock ∨ v'.ownBlock = some (w.heap.size + 1 + 1)) :
    ∃ w4, (Instr.mapUpdate 52 (.map (some m)) (.int .i64 n) (.agg #[.int .i64 n, .string s])).run Tryd.prog (w2.setCell ⟨b, 1, none⟩ v').drew = .ok () w4 ∧
      Mem w4 b m g v' br lf { d with pend := d.pend ++ [(n, s)] } ∧ Turn (fun k => k = b ∨ k = m ∨ pv.ownBlock = some k) w w4 ∧
      (w2.setCell ⟨b, 1, none⟩ v').cell? ⟨b, 2, none⟩ = some (.map (some m)) ∧ (w2.setCell ⟨b, 1, none⟩ v').cell? ⟨w.heap.size, 0, none⟩ = some (.int .i64 n) ∧ (w2.setCell ⟨b, 1, none⟩ v').cell? ⟨w.heap.size, 1, none⟩ = some (.string s) := by
  have hsz : w.heap.size + 2 ≤ w2.heap.size := by have := hG.size; simpa using this
  have hW : ∀ k, k < w.heap.size → ((w.alloc (bx n s)).alloc (bx n s)).drew.heap[k]? = w.heap[k]? := fun k hk =>
    (Below.heap_alloc (w.alloc (bx n s)) _ k (by simp; omega)).trans (Below.heap_alloc w _ k hk)
  have hWn : ((w.alloc (bx n s)).alloc (bx n s)).drew.heap[w.heap.size]? = some (bx n s) := (Below.heap_alloc (w.alloc (bx n s)) _ _ (by simp)).trans (heap_alloc_new w _)
  have k2 : ∀ k, k < w.heap.size → pv.ownBlock ≠ some k → w2.heap[k]? = w.heap[k]? := fun k hk hp => (hG.block k (by simp; omega) (Ne.symm hp)).trans (hW k hk)
  have k2n : w2.heap[w.heap.size]? = some (bx n s) := (hG.block _ (by simp; omega) (fun e => by have := (h.pk e.symm).1; omega)).trans hWn
  have hb2 := k2 b h.bl h.pb
  have hg2 := k2 g h.gl h.pg
  have hm2 := k2 m h.map.lt h.pm
  have hvb : ∀ k, v'.ownBlock = some k → k ≠ b ∧ k ≠ g ∧ k ≠ m := fun k hk => by
    rcases hL with e | e
    · exact (h.pk (e ▸ hk)).2
    · rw [hk] at e
      have e2 : k = w.heap.size + 1 + 1 := Option.some.inj e
      have := h.bl; have := h.gl; have := h.map.lt
      omega
  obtain ⟨es, clock, hrun, hmap⟩ := h.map.put n (.agg #[.int .i64 n, .string s])
  have e3 : ∀ k, k ≠ b → (w2.setCell ⟨b, 1, none⟩ v').heap[k]? = w2.heap[k]? := fun k hk => Below.heap_setCell _ _ _ _ hk
  have hb3 : (w2.setCell ⟨b, 1, none⟩ v').heap[b]? = some (.cells #[.slice (some ⟨g, 0, none⟩) d.sure.length d.sure.length, v', .map (some m), .bool br, .int .i64 lf, .bool d.down, .int .i64 d.reads, .int .i64 d.writes] 60 (0, 0)) := by
    simp [World.setCell, Array.getElem?_modify, hb2, h.blk]
  refine ⟨_, hrun (w2.setCell ⟨b, 1, none⟩ v').drew ((e3 m h.bm.symm).trans hm2), ?_, ?_, ?_, ?_, ?_⟩
  · refine ⟨?_, ?_, ?_, ?_, h.enc, ⟨h.ok.len, h.ok.sz, fun p hp => ?_, h.ok.brk⟩, h.bg, h.bm, h.gm, fun e => (hvb _ e).1 rfl, fun e => (hvb _ e).2.1 rfl, fun e => (hvb _ e).2.2 rfl⟩
    · rw [setBlock_other _ h.bm]; exact hb3
    · rw [setBlock_other _ h.gm]; exact (e3 g h.bg.symm).trans (hg2.trans h.row)
    · exact ownsRow_kept' hO (fun k hk => by rw [setBlock_other _ (hvb k hk).2.2]; exact e3 k (hvb k hk).1)
    · have := hmap (setBlock (w2.setCell ⟨b, 1, none⟩ v').drew m (.map es clock)) (setBlock_same (by have := h.map.lt; simp [World.setCell]; omega) _)
      rw [mapOf_snoc] at this
      exact this
    · rcases List.mem_append.1 hp with h1 | h1
      · exact h.ok.pd p h1
      · simp only [List.mem_singleton] at h1
        subst h1
        exact ⟨hn, hs⟩
  · refine ⟨hG.os, hG.tape, hG.output, ?_, fun k hk hx => ?_⟩
    · simp [setBlock, World.setCell]; omega
    · rw [setBlock_other _ (fun e => hx (.inr (.inl e)))]
      exact (e3 k (fun e => hx (.inl e))).trans (k2 k hk (fun e => hx (.inr (.inr e))))
  · simp [World.cell?, hb3]
  · rw [World.cell?_of_block (a := ⟨w.heap.size, 0, none⟩) (e3 _ (by have := h.bl; show w.heap.size ≠ b; omega))]; simp [World.cell?, k2n]
  · rw [World.cell?_of_block (a := ⟨w.heap.size, 1, none⟩) (e3 _ (by have := h.bl; show w.heap.size ≠ b; omega))]; simp [World.cell?, k2n]

theorem tick_ret {d : Dk} (h : d.down = false) : d.tick.1 = if d.tick.2.down = true then 4 else 0 := by
  unfold Dk.tick; split <;> simp [h]

set_option maxHeartbeats 2000000 in
set_option maxRecDepth 100000 in
theorem write_ok (h : Mem w b m g pv br lf d) (n : Nat) (hn : n < d.sure.length) (s : ByteArray) (hs : s.size = 256) (hd : d.down = false) (hl : d.pend.length < 100000) :
    Calls Tryd.prog 29 #[ptr b, .int .i64 n, .string s] w fun e w' => e = .returned (.int .i64 (d.put n s).1) ∧ ∃ pv', Turn (fun k => k = b ∨ k = m ∨ pv.ownBlock = some k) w w' ∧ (∀ k, pv'.ownBlock = some k → pv.ownBlock = some k ∨ w.heap.size ≤ k) ∧ MemD w' b m g pv' (d.put n s).2 := by
  have H : Hid (Mem w b m g pv br lf d) := h
  have C1 : Hid (Calls Tryd.prog 48 #[ptr b] w fun e w' => e = .returned (.bool d.down) ∧ w = w') := down_m h
  have hi : d.has n = true := by unfold Dk.has; simp; omega
  have C2 : Hid (Calls Tryd.prog 49 #[ptr b, .int .i64 n] w fun e w' => e = .returned (.bool (d.has n)) ∧ w = w') := has_m h n
  have lt := h.bl; have c1 := h.c1; have f1 := h.fz 1
  have PN : Hid (w.ownsRow 0 103 2 pv d.pend.length (flatW d.pend)) := h.pnd
  have hW0 : ∀ k, k < w.heap.size → ((w.alloc (.cells #[.int .i64 n, .string s] 103)).alloc (.cells #[.int .i64 n, .string s] 103)).drew.heap[k]? = w.heap[k]? := fun k hk =>
    (Below.heap_alloc (w.alloc (.cells #[.int .i64 n, .string s] 103)) _ k (by simp; omega)).trans (Below.heap_alloc w _ k hk)
  have HW : Hid (∀ k, k < w.heap.size → ((w.alloc (.cells #[.int .i64 n, .string s] 103)).alloc (.cells #[.int .i64 n, .string s] 103)).drew.heap[k]? = w.heap[k]?) := hW0
  have HWn : Hid (((w.alloc (.cells #[.int .i64 n, .string s] 103)).alloc (.cells #[.int .i64 n, .string s] 103)).drew.heap[w.heap.size]? = some (.cells #[.int .i64 n, .string s] 103 (0, 0))) := by
    show ((w.alloc _).alloc _).heap[w.heap.size]? = _
    rw [Below.heap_alloc _ _ _ (by simp)]
    exact heap_alloc_new w _
  clear h hW0
  go_enter Tryd.func29, Tryd.ntmps29
  go_wp2_with fail
  refine Calls.mono C1.out ?_
  rintro e w1 ⟨rfl, rfl⟩
  go_wp2_with fail
  refine Calls.mono C2.out ?_
  rintro e w1 ⟨rfl, rfl⟩
  go_wp2
  go_region_law (refine step_write rfl _ _ rfl pv d.pend rfl (ownsRow_kept' PN.out (fun k hk => HW.out k (H.out.pk hk).1)) _ _ rfl ((n : Nat), s) ?k1 ?k2 hl ?_; (case k1 => simp); (case k2 => simp); intro ao n' c' w2 hown2 hgr2 hloc2; have hb2 : Hid (w2.heap[b]? = w.heap[b]?) := (hgr2.block b (by simp; omega) H.out.pb.symm).trans (HW.out b lt); have cb2 : w2.cell? ⟨b, 1, none⟩ = some pv := (World.cell?_of_block (a := ⟨b, 1, none⟩) hb2.out).trans c1; have fb2 : w2.frozen? ⟨b, 1, none⟩ = false := (World.frozen?_of_block (a := ⟨b, 1, none⟩) hb2.out).trans f1; have HO2 : Hid (w2.ownsRow 0 103 2 (.slice ao n' c') (d.pend ++ [(n, s)]).length (flatW (d.pend ++ [(n, s)]))) := hown2; have HL2 : Hid ((Value.slice ao n' c').ownBlock = pv.ownBlock ∨ (Value.slice ao n' c').ownBlock = some (w.heap.size + 1 + 1)) := (by show _ ∨ _; simpa using hloc2); have HG2 : Hid (((w.alloc (.cells #[.int .i64 n, .string s] 103)).alloc (.cells #[.int .i64 n, .string s] 103)).drew.grownBy w2 pv.ownBlock) := hgr2; clear hown2 hgr2 hloc2)
  all_goals
    obtain ⟨w4, hrun4, hM4, hT4, c2, l0, l1⟩ := write_mid H.out n hn s hs HG2.out HO2.out HL2.out
    obtain ⟨v', ev⟩ : ∃ v', v' = Value.slice ao n' c' := ⟨_, rfl⟩
    rw [← ev] at hrun4 hM4 c2 l0 l1
    have HL3 : Hid (v'.ownBlock = pv.ownBlock ∨ v'.ownBlock = some (w.heap.size + 1 + 1)) := by rw [ev]; exact HL2.out
    rw [← ev]
    obtain ⟨w3, e3⟩ : ∃ w3, w3 = w2.setCell ⟨b, 1, none⟩ v' := ⟨_, rfl⟩
    rw [← e3] at hrun4 c2 l0 l1
    rw [← e3]
    have M4 : Hid (Mem w4 b m g v' br lf { d with pend := d.pend ++ [(n, s)] }) := hM4
    have T4 : Hid (Turn (fun k => k = b ∨ k = m ∨ pv.ownBlock = some k) w w4) := hT4
    have C3 : Hid (Calls Tryd.prog 50 #[.pointer (some ⟨b, 7, none⟩), .int .i64 1] w4 fun e w' => e = .returned (.int .i64 (wrap64 (d.writes + 1))) ∧ w' = w4.setCell ⟨b, 7, none⟩ (.int .i64 (wrap64 (d.writes + 1)))) := add_m 7 _ _ hM4.c7 (hM4.fz 7)
    obtain ⟨w5, e5⟩ : ∃ w5, w5 = w4.setCell ⟨b, 7, none⟩ (.int .i64 (wrap64 (d.writes + 1))) := ⟨_, rfl⟩
    have M5 : Hid (Mem w5 b m g v' br lf { d with pend := d.pend ++ [(n, s)], writes := wrap64 (d.writes + 1) }) := by show Mem _ _ _ _ _ _ _ _; rw [e5]; exact hM4.set7 _
    have T5 : Hid (OnlyD b w4 w5) := by show OnlyD _ _ _; rw [e5]; exact OnlyD.setCell _ _ _ _
    rw [← e5] at C3
    have C4 : Hid (Calls Tryd.prog 51 #[ptr b] w5 fun e w' => e = .returned (.tuple #[]) ∧ OnlyD b w5 w' ∧ MemD w' b m g v' { d with pend := d.pend ++ [(n, s)], writes := wrap64 (d.writes + 1) : Dk }.tick.2) := countDown_m M5.out hd
    have HP : Hid (d.put n s = { d with pend := d.pend ++ [(n, s)], writes := wrap64 (d.writes + 1) : Dk }.tick) := by
      show d.put n s = _
      unfold Dk.put
      rw [if_neg (by simp [hd]), if_pos hi, if_pos hs]
      rfl
    have TR : Hid ({ d with pend := d.pend ++ [(n, s)], writes := wrap64 (d.writes + 1) : Dk }.tick.1 = if { d with pend := d.pend ++ [(n, s)], writes := wrap64 (d.writes + 1) : Dk }.tick.2.down = true then 4 else 0) := tick_ret hd
    have lt4 := hM4.bl; have lt5 := M5.out.bl; have c7 := hM4.c7
    clear hM4 hT4 e3 e5 ev HL2 HG2 HO2 cb2 fb2 hb2 c1 f1 HW HWn
    go_wp2
    go_region
    go_wp2_with fail
    refine Calls.mono C3.out ?_
    rintro e w6 ⟨rfl, rfl⟩
    go_wp2_with fail
    refine Calls.mono C4.out ?_
    rintro e w6 ⟨rfl, O6, br6, lf6, M6⟩
    have c5 := M6.c5; have lt6 := M6.bl
    have M6' : Hid (Mem w6 b m g v' br6 lf6 { d with pend := d.pend ++ [(n, s)], writes := wrap64 (d.writes + 1) : Dk }.tick.2) := M6
    clear M6
    obtain ⟨dd, ed⟩ : ∃ dd, dd = { d with pend := d.pend ++ [(n, s)], writes := wrap64 (d.writes + 1) : Dk }.tick := ⟨_, rfl⟩
    rw [← ed] at c5 M6' HP TR
    have fin : Turn (fun k => k = b ∨ k = m ∨ pv.ownBlock = some k) w w6 := (T4.out.trans (T5.out.turn (X := fun k => k = b) rfl) (fun k hk => .inl (.inl hk))).trans (O6.turn (X := fun k => k = b) rfl) (fun k hk => .inl (.inl hk))
    have FIN : Hid (Turn (fun k => k = b ∨ k = m ∨ pv.ownBlock = some k) w w6) := fin
    clear fin O6 ed
    cases hdn : dd.2.down with
    | true =>
      rw [hdn] at c5 TR
      go_wp2
      go_ret
      rw [HP.out]
      exact ⟨ret_intD TR.out.symm, v', FIN.out, fun k hk => HL3.out.elim (fun e => .inl (e ▸ hk)) (fun e => .inr (by rw [hk] at e; have := Option.some.inj e; omega)), br6, lf6, M6'.out⟩
    | false =>
      rw [hdn] at c5 TR
      go_wp2
      go_ret
      rw [HP.out]
      exact ⟨ret_intD TR.out.symm, v', FIN.out, fun k hk => HL3.out.elim (fun e => .inl (e ▸ hk)) (fun e => .inr (by rw [hk] at e; have := Option.some.inj e; omega)), br6, lf6, M6'.out⟩

set_option maxHeartbeats 1000000 in
theorem write_no (h : Mem w b m g pv br lf d) (i : Int) (s : ByteArray) (hno : d.down = true ∨ d.has i = false ∨ s.size ≠ 256) (hsz : s.size ≤ maxLen) :
    Calls Tryd.prog 29 #[ptr b, .int .i64 i, .string s] w fun e w' => e = .returned (.int .i64 (d.put i s).1) ∧ w = w' ∧ (d.put i s).2 = d := by
  have C1 : Hid (Calls Tryd.prog 48 #[ptr b] w fun e w' => e = .returned (.bool d.down) ∧ w = w') := down_m h
  have C2 : Hid (Calls Tryd.prog 49 #[ptr b, .int .i64 i] w fun e w' => e = .returned (.bool (d.has i)) ∧ w = w') := has_m h i
  have lt := h.bl
  clear h
  unfold maxLen at hsz
  by_cases hd : d.down = true
  · have HP : Hid (d.put i s = (4, d)) := by show d.put i s = _; unfold Dk.put; rw [if_pos hd]
    clear hno
    go_enter Tryd.func29, Tryd.ntmps29
    go_wp2_with fail
    refine Calls.mono C1.out ?_
    rintro e w1 ⟨rfl, rfl⟩
    go_wp2
    go_ret
    rw [HP.out]
    exact ⟨rfl, rfl, rfl⟩
  · have hf : d.down = false := by simpa using hd
    by_cases hi : d.has i = true
    · have hs : s.size ≠ 256 := by
        rcases hno with h | h | h
        · exact absurd h hd
        · rw [hi] at h; cases h
        · exact h
      have HP : Hid (d.put i s = (1, d)) := by show d.put i s = _; unfold Dk.put; rw [if_neg hd, if_pos hi, if_neg hs]
      have hs2 : ((s.size : Int) == 256) = false := beq_eq_false_iff_ne.2 (by omega)
      clear hno
      go_enter Tryd.func29, Tryd.ntmps29
      go_wp2_with fail
      refine Calls.mono C1.out ?_
      rintro e w1 ⟨rfl, rfl⟩
      go_wp2_with fail
      refine Calls.mono C2.out ?_
      rintro e w1 ⟨rfl, rfl⟩
      go_wp2
      go_ret
      rw [HP.out]
      exact ⟨rfl, rfl, rfl⟩
    · have hif : d.has i = false := by simpa using hi
      have HP : Hid (d.put i s = (40, d)) := by show d.put i s = _; unfold Dk.put; rw [if_neg hd, if_neg hi]
      clear hno
      go_enter Tryd.func29, Tryd.ntmps29
      go_wp2_with fail
      refine Calls.mono C1.out ?_
      rintro e w1 ⟨rfl, rfl⟩
      go_wp2_with fail
      refine Calls.mono C2.out ?_
      rintro e w1 ⟨rfl, rfl⟩
      go_wp2
      go_ret
      rw [HP.out]
      exact ⟨rfl, rfl, rfl⟩

end
end

/-! Sync -/
section
open Go.RowKit
set_option linter.unusedVariables false
open Go.ChangeMaps (setBlock)
section
variable {w w' : World} {b m g : Nat} {pv : Value} {br : Bool} {lf : Int} {d : Dk}

theorem Mem.pcells (h : Mem w b m g pv br lf d) {k : Nat} (hk : k < d.pend.length) : ∃ r c, pv = .slice (some ⟨r, 0, none⟩) d.pend.length c ∧ w.cell? ⟨r, k * 2, none⟩ = some (.int .i64 (wAt d.pend k).1) ∧ w.cell? ⟨r, k * 2 + 1, none⟩ = some (.string (wAt d.pend k).2) ∧ r < w.heap.size := by
  rcases h.pnd.2 with ⟨_, h2⟩ | ⟨r, c, cur, h1, _⟩
  · omega
  · have hp := h.pnd
    rw [h1] at hp
    refine ⟨r, c, h1, ?_, ?_, (h.pk (by rw [h1]; rfl)).1⟩
    · rw [hp.cellAt (k * 2) (by omega)]; exact (flatW_get d.pend k hk).1
    · rw [hp.cellAt (k * 2 + 1) (by omega)]; exact (flatW_get d.pend k hk).2

def Dk.at (d : Dk) (s : List ByteArray) : Dk := { d with sure := s }

end
end

/-! Crash -/
section
open Go.RowKit
set_option linter.unusedVariables false
open Go.ChangeMaps (setBlock)

/-- A slice of numbers that can be read. -/
def IntRow (w : World) (v : Value) (l : List Int) : Prop :=
  ∃ ao cap, v = .slice ao l.length cap ∧ (l ≠ [] → ∃ r o, ao = some ⟨r, o, none⟩ ∧ r < w.heap.size ∧ ∀ j, j < l.length → w.cell? ⟨r, o + j, none⟩ = some (.int .i64 (l.getD j 0)))
theorem IntRow.below {w w' : World} {v : Value} {l : List Int} {B : Nat} (h : IntRow w v l) (hb : Below B w w') (hB : w.heap.size ≤ B) : IntRow w' v l := by
  obtain ⟨ao, cap, e, h1⟩ := h
  refine ⟨ao, cap, e, fun hne => ?_⟩
  obtain ⟨r, o, e2, hr, hc⟩ := h1 hne
  exact ⟨r, o, e2, Nat.lt_of_lt_of_le hr hb.size, fun j hj => (World.cell?_of_block (a := ⟨r, o + j, none⟩) (hb.block r (by omega))).trans (hc j hj)⟩

def keptTo (keep : List Int) (n t : Nat) : List Value := (List.range n).map fun (j : Nat) => .bool ((keep.take t).contains (j : Int))
theorem keptTo_length (keep : List Int) (n t : Nat) : (keptTo keep n t).length = n := by simp [keptTo]
theorem keptTo_get (keep : List Int) (n t : Nat) {j : Nat} (hj : j < n) : (keptTo keep n t)[j]? = some (.bool ((keep.take t).contains (j : Int))) := by simp [keptTo, hj]
theorem take_getD {keep : List Int} {t : Nat} (ht : t < keep.length) : keep.take (t + 1) = keep.take t ++ [keep.getD t 0] := by
  rw [List.take_add_one, List.getElem?_eq_getElem ht, List.getD_eq_getElem?_getD, List.getElem?_eq_getElem ht]; rfl
theorem keptTo_hit {keep : List Int} {n t : Nat} (ht : t < keep.length) {x : Nat} (hx : keep.getD t 0 = x) (_hn : x < n) : keptTo keep n (t + 1) = (keptTo keep n t).set x (.bool true) := by
  apply List.ext_getElem?
  intro j
  by_cases hj : j < n
  · rw [keptTo_get _ _ _ hj, List.getElem?_set, keptTo_length, take_getD ht, hx]
    by_cases e : x = j
    · subst e
      simp [hj]
    · rw [if_neg e, keptTo_get _ _ _ hj]
      have e2 : ¬ ((j : Int) = (x : Int)) := by omega
      simp [List.contains_eq_mem, e2]
  · rw [List.getElem?_eq_none (by rw [keptTo_length]; omega), List.getElem?_eq_none (by rw [List.length_set, keptTo_length]; omega)]
theorem keptTo_miss {keep : List Int} {n t : Nat} (ht : t < keep.length) (hx : ¬ (0 ≤ keep.getD t 0 ∧ keep.getD t 0 < n)) : keptTo keep n (t + 1) = keptTo keep n t := by
  apply List.ext_getElem?
  intro j
  by_cases hj : j < n
  · rw [keptTo_get _ _ _ hj, keptTo_get _ _ _ hj, take_getD ht]
    have e2 : ¬ ((j : Int) = keep.getD t 0) := by omega
    simp only [List.getD_eq_getElem?_getD] at e2
    simp [List.contains_eq_mem, e2]
  · rw [List.getElem?_eq_none (by rw [keptTo_length]; omega), List.getElem?_eq_none (by rw [keptTo_length]; omega)]

theorem infoBool : (Tryd.prog.info? 4).map (fun i => (i.zero, i.size, i.bytes)) = some (some (.bool false), 1, 1) := by kernel_rfl
section
variable {w w' : World} {b m g : Nat} {pv : Value} {br : Bool} {lf : Int} {d : Dk}

end
end

/-! Plain -/
section
open Go.RowKit
set_option linter.unusedVariables false

theorem Dk.has_nat {d : Dk} {n : Nat} (h : n < d.sure.length) : d.has n = true := by unfold Dk.has; simp; omega
theorem Dk.put_ok {d : Dk} {i : Int} {s : ByteArray} (hd : d.down = false) (hi : d.has i = true) (hs : s.size = 256) : d.put i s = { d with pend := d.pend ++ [(i.toNat, s)], writes := wrap64 (d.writes + 1) : Dk }.tick := by
  unfold Dk.put; rw [if_neg (by simp [hd]), if_pos hi, if_pos hs]
theorem Dk.put_range {d : Dk} {i : Int} {s : ByteArray} (hd : d.down = false) (hi : d.has i = false) : d.put i s = (40, d) := by
  unfold Dk.put; rw [if_neg (by simp [hd]), if_neg (by simp [hi])]
theorem Dk.put_arg {d : Dk} {i : Int} {s : ByteArray} (hd : d.down = false) (hi : d.has i = true) (hs : s.size ≠ 256) : d.put i s = (1, d) := by
  unfold Dk.put; rw [if_neg (by simp [hd]), if_pos hi, if_neg hs]
theorem Dk.put_down {d : Dk} {i : Int} {s : ByteArray} (hd : d.down = true) : d.put i s = (4, d) := by unfold Dk.put; rw [if_pos hd]
theorem Dk.get_down {d : Dk} {i : Int} (hd : d.down = true) : d.get i = ((ByteArray.empty, 4), d) := by unfold Dk.get; rw [if_pos hd]
theorem Dk.get_ok {d : Dk} {i : Int} (hd : d.down = false) (hi : d.has i = true) : d.get i = ((d.now i.toNat, 0), { d with reads := wrap64 (d.reads + 1) }) := by
  unfold Dk.get; rw [if_neg (by simp [hd]), if_pos hi]
theorem Dk.sync_down {d : Dk} (hd : d.down = true) : d.sync = (4, d) := by unfold Dk.sync; rw [if_pos hd]
theorem Dk.sync_ok {d : Dk} (hd : d.down = false) : d.sync = (0, { d with sure := syncTo d.pend d.sure d.pend.length, pend := [] }) := by unfold Dk.sync; rw [if_neg (by simp [hd])]

theorem sAt_set (l : List ByteArray) {i j : Nat} (hi : i < l.length) (s : ByteArray) : sAt (l.set i s) j = if i = j then s else sAt l j := by
  unfold sAt
  rw [List.getD_eq_getElem?_getD, List.getElem?_set]
  by_cases h : i = j
  · subst h; simp [hi]
  · simp [h, List.getD_eq_getElem?_getD]

/-- A crash that keeps none of the first n writes does nothing with them. -/
theorem crashTo_none (p : List Wr) (keep : List Int) (torn cut : Int) (s : List ByteArray) : ∀ n : Nat, (∀ k : Nat, k < n → keep.contains (k : Int) = false) → crashTo p keep torn cut s n = s
  | 0, _ => rfl
  | n + 1, h => by
    rw [crashTo_succ, crashTo_none p keep torn cut s n (fun k hk => h k (by omega))]
    unfold crashStep
    rw [if_neg (by rw [h n (Nat.lt_succ_self _)]; decide)]

/-- What no kept write is about is as it was. -/
theorem crashTo_other (p : List Wr) (keep : List Int) (torn cut : Int) (s : List ByteArray) (i : Nat) : ∀ n, (∀ k, k < n → (wAt p k).1 ≠ i) → sAt (crashTo p keep torn cut s n) i = sAt s i
  | 0, _ => rfl
  | n + 1, h => by
    rw [crashTo_succ]
    unfold crashStep
    have ih := crashTo_other p keep torn cut s i n (fun k hk => h k (by omega))
    split
    · have hne := h n (Nat.lt_succ_self _)
      rw [← ih]
      unfold sAt
      simp only [List.getD_eq_getElem?_getD, List.getElem?_set_ne hne]
    · exact ih

/-- With all kept, and none torn, each sector is as it read. -/
theorem crashTo_all {d : Dk} (h : d.Ok) (keep : List Int) (cut : Int) (i : Nat) : ∀ n : Nat, n ≤ d.pend.length → (∀ k : Nat, k < n → keep.contains (k : Int) = true) → sAt (crashTo d.pend keep (-1) cut d.sure n) i = nowTo d.sure d.pend i n
  | 0, _, _ => rfl
  | n + 1, hn, hk => by
    have ih := crashTo_all h keep cut i n (by omega) (fun k hk' => hk k (by omega))
    have hw := wAt_ok h (show n < d.pend.length by omega)
    have hs := crashTo_sizes h keep (-1) cut n (by omega)
    have hl := crashTo_length d.pend keep (-1) cut d.sure n
    rw [crashTo_succ, nowTo_succ, ← ih]
    unfold crashStep
    rw [if_pos (hk n (Nat.lt_succ_self _)), if_neg (by omega), tear_all hw.2 (sAt_size hs (by rw [hl]; exact hw.1)), sAt_set _ (by rw [hl]; exact hw.1)]
theorem syncTo_now {d : Dk} (h : d.Ok) (i : Nat) : ∀ n, n ≤ d.pend.length → sAt (syncTo d.pend d.sure n) i = nowTo d.sure d.pend i n
  | 0, _ => rfl
  | n + 1, hn => by
    have ih := syncTo_now h i n (by omega)
    have hw := wAt_ok h (show n < d.pend.length by omega)
    rw [syncTo_succ, nowTo_succ, ← ih, sAt_set _ (by rw [syncTo_length]; exact hw.1)]
end

/-! New -/
section
open Go.RowKit
set_option linter.unusedVariables false
open Go.ChangeMaps (setBlock)

theorem infoString : (Tryd.prog.info? 9).map (fun i => (i.zero, i.size, i.bytes)) = some (some (.string ByteArray.empty), 1, 16) := by kernel_rfl

def fillTo (N t : Nat) : List ByteArray := List.replicate t zeroS ++ List.replicate (N - t) ByteArray.empty
theorem fillTo_length {N t : Nat} (h : t ≤ N) : (fillTo N t).length = N := by simp [fillTo]; omega
theorem fillTo_set {N t : Nat} (h : t < N) : fillTo N (t + 1) = (fillTo N t).set t zeroS := by
  unfold fillTo
  rw [List.set_append_right _ _ (by simp), show N - t = (N - (t + 1)) + 1 by omega, List.replicate_succ' (n := t), List.replicate_succ (n := N - (t + 1))]
  simp
theorem fillTo_end (N : Nat) : fillTo N N = List.replicate N zeroS := by simp [fillTo]

theorem make_strs (w : World) (N : Nat) (hN : N < 1000000) : (Instr.makeSlice 51 (.int .i64 N) (.int .i64 N)).run Tryd.prog w = .ok (.slice (some ⟨w.heap.size, 0, none⟩) N N) (w.alloc (.cells ((fillTo N 0).map Value.string).toArray 9)) := by
  obtain ⟨i0, hi, hz0, hz1, hz2⟩ := info_parts infoString
  have h := run_make (P := Tryd.prog) w 51 9 i0 _ Tryd.underlying51 hi hz0 .i64 .i64 N N (by omega) (Int.le_refl _) (by rw [hz2]; omega) (by omega)
  rw [h]
  have e : madeCells (Value.string ByteArray.empty).cells ((N : Int).toNat * i0.size) = ((fillTo N 0).map Value.string).toArray := by
    rw [hz1, Int.toNat_natCast, Nat.mul_one]
    apply Array.toList_inj.1
    rw [show (Value.string ByteArray.empty).cells = #[Value.string ByteArray.empty] from rfl, toList_madeCells_one]
    simp [fillTo]
  rw [e]
  simp

theorem repeat_zeroD : (⟨(Lib.repeatL [0] 256).toArray⟩ : ByteArray) = zeroS := by decide +kernel

set_option maxHeartbeats 4000000 in
set_option maxRecDepth 100000 in
theorem new_m (n : Int) (w : World) : Calls Tryd.prog 7 #[.int .i64 n] w fun e w' => ∃ b, e = .returned (ptr b) ∧ Below w.heap.size w w' ∧ Mine (fun k => w.heap.size ≤ k ∧ k < w'.heap.size) w' b (Dk.new n) := by
  obtain ⟨N, hN⟩ : ∃ N : Nat, N = (min (max n 0) 16384).toNat := ⟨_, rfl⟩
  have hNl : N ≤ 16384 := by omega
  have HD : Hid (Dk.new n = ⟨List.replicate N zeroS, [], none, false, 0, 0⟩) := by show Dk.new n = _; unfold Dk.new; rw [hN]
  have OKD : Hid ((Dk.new n).Ok) := Dk.new_ok n
  have hmk := make_strs w N (by omega)
  have hmm := @run_makeMap Tryd.prog
  obtain ⟨w1, e1⟩ : ∃ w1, w1 = w.alloc (.cells ((fillTo N 0).map Value.string).toArray 9) := ⟨_, rfl⟩
  rw [← e1] at hmk
  have Q1 : Hid (w1.heap[w.heap.size]? = some (.cells ((fillTo N 0).map Value.string).toArray 9 (0, 0))) := by show _ = _; rw [e1]; exact heap_alloc_new w _
  have B1 : Hid (Below w.heap.size w w1) := by show Below _ _ _; rw [e1]; exact (Below.refl _ _).alloc (Nat.le_refl _) _
  have S1 : w1.heap.size = w.heap.size + 1 := by rw [e1]; simp
  clear e1
  have hmx : min (max n 0) 16384 = (N : Int) := by omega
  clear hN
  go_enter Tryd.func7, Tryd.ntmps7
  go_wp2_with fail
  obtain ⟨w3, e3⟩ : ∃ w3, w3 = (w1.alloc (.map #[] 0)).alloc (.cells #[.slice (some ⟨w.heap.size, 0, none⟩) N N, .slice none 0 0, .map (some (w.heap.size + 1)), .bool false, .int .i64 0, .bool false, .int .i64 0, .int .i64 0] 60) := ⟨_, rfl⟩
  rw [← e3]
  have hA : (w1.alloc (.map #[] 0)).heap.size = w.heap.size + 1 + 1 := by simp [S1]
  have P3 : Hid (w3.heap[w.heap.size + 1 + 1]? = some (.cells #[.slice (some ⟨w.heap.size, 0, none⟩) N N, .slice none 0 0, .map (some (w.heap.size + 1)), .bool false, .int .i64 0, .bool false, .int .i64 0, .int .i64 0] 60 (0, 0))) := by
    show _ = _
    rw [e3, ← hA]; exact heap_alloc_new _ _
  have K3 : Hid (∀ k, k < w1.heap.size → w3.heap[k]? = w1.heap[k]?) := fun k hk => by
    rw [e3]; exact (Below.heap_alloc _ _ k (by rw [hA]; omega)).trans (Below.heap_alloc _ _ k hk)
  have N3 : Hid (w3.heap[w.heap.size + 1]? = some (.map #[] 0)) := by
    show _ = _
    rw [e3, Below.heap_alloc _ _ _ (by rw [hA]; omega), ← S1]; exact heap_alloc_new _ _
  have S3 : w3.heap.size = w.heap.size + 3 := by rw [e3]; simp [S1]
  have B3 : Hid (Below w.heap.size w w3) := by show Below _ _ _; rw [e3]; exact (B1.out.alloc (by omega) _).alloc (by rw [hA]; omega) _
  clear e3 hA
  have RC : Hid (Calls Tryd.prog 21 #[.string ⟨#[0]⟩, .int .i64 (256 : Nat)] w3 fun e w' => e = .returned (.string ⟨(Lib.repeatL [0] 256).toArray⟩) ∧ Below w3.heap.size w3 w') := Tryd.strings_Repeat ⟨#[0]⟩ 256 w3 (by omega) (by show 1 * 256 ≤ _; omega)
  refine Calls.mono RC.out ?_
  rintro e w4 ⟨rfl, b4⟩
  rw [repeat_zeroD]
  have B4 : Hid (Below w3.heap.size w3 w4) := b4
  have s4 : w.heap.size + 3 ≤ w4.heap.size := by rw [← S3]; exact b4.size
  have P4 : Hid (w4.heap[w.heap.size + 1 + 1]? = some (.cells #[.slice (some ⟨w.heap.size, 0, none⟩) N N, .slice none 0 0, .map (some (w.heap.size + 1)), .bool false, .int .i64 0, .bool false, .int .i64 0, .int .i64 0] 60 (0, 0))) := (b4.block _ (by omega)).trans P3.out
  have N4 : Hid (w4.heap[w.heap.size + 1]? = some (.map #[] 0)) := (b4.block _ (by omega)).trans N3.out
  have Q4 : Hid (w4.heap[w.heap.size]? = some (.cells ((fillTo N 0).map Value.string).toArray 9 (0, 0))) := (b4.block _ (by omega)).trans ((K3.out _ (by omega)).trans Q1.out)
  have c0 : w4.cell? ⟨w.heap.size + 1 + 1, 0, none⟩ = some (.slice (some ⟨w.heap.size, 0, none⟩) N N) := by simp [World.cell?, P4.out]
  have lt4 : w.heap.size + 1 + 1 < w4.heap.size := by omega
  clear b4 RC hmm hmk hmx
  obtain ⟨z, hz⟩ : ∃ z, z = zeroS := ⟨_, rfl⟩
  rw [← hz]
  have HZ : Hid (z = zeroS) := hz
  clear hz
  go_wp2
  go_loopg [19] N (fun gk s19 wr => ∃ t : Nat, s19 = .int .i64 t ∧ t ≤ N ∧ N - t ≤ gk ∧ Aside (wr.heap[w.heap.size]? = some (.cells ((fillTo N t).map Value.string).toArray 9 (0, 0))) ∧ Hid (OnlyD w.heap.size w4 wr))
  case atStart => exact ⟨0, rfl, Nat.zero_le _, Nat.le_refl _, Q4.out, OnlyD.refl _ _⟩
  case round =>
    obtain ⟨t, rfl, ht, hgt, HQ, HO⟩ := hrel
    have cr : wr.cell? ⟨w.heap.size + 1 + 1, 0, none⟩ = some (.slice (some ⟨w.heap.size, 0, none⟩) N N) := (World.cell?_of_block (a := ⟨w.heap.size + 1 + 1, 0, none⟩) (HO.out.block _ (by show w.heap.size + 1 + 1 ≠ w.heap.size; omega))).trans c0
    have ltr : w.heap.size + 1 + 1 < wr.heap.size := by rw [HO.out.size]; exact lt4
    by_cases htl : t < N
    · have htz : (t : Int) < (N : Int) := by omega
      have q0 : wr.cell? ⟨w.heap.size, t, none⟩ = some (.string (sAt (fillTo N t) t)) := by
        have hl : t < (fillTo N t).length := by rw [fillTo_length ht]; exact htl
        simp only [World.cell?, HQ.out]
        simp [sAt, hl]
      have qf : wr.frozen? ⟨w.heap.size, t, none⟩ = false := by simp [World.frozen?, HQ.out]
      have Hfs : Hid (fillTo N (t + 1) = (fillTo N t).set t zeroS) := fillTo_set htl
      generalize sAt (fillTo N t) t = old at *
      go_wp2
      go_roundg (N - (t + 1))
      case measure => omega
      case rel =>
        refine ⟨t + 1, by go_num, by omega, Nat.le_refl _, ?_, HO.out.trans (OnlyD.setCell _ _ _ _)⟩
        show _ = _
        rw [Hfs.out, HZ.out]
        simp [World.setCell, Array.getElem?_modify, HQ.out]
    · have htz : ¬ (t : Int) < (N : Int) := by omega
      obtain rfl : t = N := by omega
      have fin : Below w.heap.size w wr ∧ Mine (fun k => w.heap.size ≤ k ∧ k < wr.heap.size) wr (w.heap.size + 1 + 1) (Dk.new n) := by
        refine ⟨B3.out.trans ⟨HO.out.os.trans B4.out.os, HO.out.tape.trans B4.out.tape, HO.out.output.trans B4.out.output, by rw [HO.out.size]; omega, fun k hk => (HO.out.block k (by omega)).trans (B4.out.block k (by omega))⟩, ⟨w.heap.size + 1, w.heap.size, .slice none 0 0, false, 0, ?_, by omega, by omega, by omega, fun k hk => by simp [Value.ownBlock] at hk⟩, fun k hk => hk.2⟩
        have OK := OKD.out
        rw [HD.out] at OK ⊢
        refine ⟨?_, ?_, World.ownsRow_nil _ _ _ _, ?_, fun _ => .inl ⟨rfl, rfl⟩, OK, by omega, by omega, by omega, by simp [Value.ownBlock], by simp [Value.ownBlock], by simp [Value.ownBlock]⟩
        · rw [HO.out.block _ (by omega), P4.out]; simp
        · rw [HQ.out, fillTo_end]
        · rw [mapOf_nil]; exact MapIs.empty ((HO.out.block _ (by omega)).trans N4.out)
      have FIN : Hid (Below w.heap.size w wr ∧ Mine (fun k => w.heap.size ≤ k ∧ k < wr.heap.size) wr (w.heap.size + 1 + 1) (Dk.new n)) := fin
      clear fin HQ HO
      go_wp2
      go_ret
      exact ⟨_, rfl, FIN.out⟩
end

/-! Api -/
section
open Go.RowKit
set_option linter.unusedVariables false

/-- Behind a call the disk is d' in blocks that were its own, or are new; no other block has turned. -/
def Goes (X : Nat → Prop) (w w' : World) (b : Nat) (d' : Dk) : Prop := ∃ X', Mine X' w' b d' ∧ Turn X w w' ∧ ∀ k, X' k → X k ∨ w.heap.size ≤ k

section
variable {X : Nat → Prop} {w w' : World} {b m g : Nat} {pv pv' : Value} {br : Bool} {lf : Int} {d d' : Dk}

theorem goes_of (hl : ∀ k, X k → k < w.heap.size) (hM : MemD w' b m g pv' d') (xb : X b) (xm : X m) (xg : X g) (hp : ∀ k, pv'.ownBlock = some k → X k ∨ w.heap.size ≤ k) (ht : Turn X w w') : Goes X w w' b d' := by
  obtain ⟨br, lf, h⟩ := hM
  refine ⟨fun k => X k ∨ (w.heap.size ≤ k ∧ k < w'.heap.size), ⟨⟨m, g, pv', br, lf, h, .inl xb, .inl xm, .inl xg, fun k hk => (hp k hk).elim .inl (fun h1 => .inr ⟨h1, (h.pk hk).1⟩)⟩, fun k hk => ?_⟩, ht, fun k hk => hk.elim .inl (fun h => .inr h.1)⟩
  rcases hk with h1 | h1
  · exact Nat.lt_of_lt_of_le (hl k h1) ht.size
  · exact h1.2
theorem Goes.same (h : Mine X w b d) : Goes X w w b d := ⟨X, h, Turn.refl _ _, fun _ hk => .inl hk⟩
theorem Turn.sub {Y : Nat → Prop} (t : Turn Y w w') (h : ∀ k, Y k → X k) : Turn X w w' := ⟨t.os, t.tape, t.output, t.size, fun k hk hx => t.block k hk (fun hy => hx (h k hy))⟩

theorem down_c (h : Mine X w b d) : Calls Tryd.prog 48 #[ptr b] w fun e w' => e = .returned (.bool d.down) ∧ w = w' := by
  obtain ⟨⟨m, g, pv, br, lf, hM, _⟩, _⟩ := h; exact down_m hM
theorem sectors_c (h : Mine X w b d) : Calls Tryd.prog 68 #[ptr b] w fun e w' => e = .returned (.int .i64 d.sure.length) ∧ w = w' := by
  obtain ⟨⟨m, g, pv, br, lf, hM, _⟩, _⟩ := h; exact sectors_m hM
theorem reads_c (h : Mine X w b d) : Calls Tryd.prog 18 #[ptr b] w fun e w' => e = .returned (.int .i64 d.reads) ∧ w = w' := by
  obtain ⟨⟨m, g, pv, br, lf, hM, _⟩, _⟩ := h; exact reads_m hM
theorem writes_c (h : Mine X w b d) : Calls Tryd.prog 11 #[ptr b] w fun e w' => e = .returned (.int .i64 d.writes) ∧ w = w' := by
  obtain ⟨⟨m, g, pv, br, lf, hM, _⟩, _⟩ := h; exact writes_m hM

theorem read_c (h : Mine X w b d) (i : Int) : Calls Tryd.prog 80 #[ptr b, .int .i64 i] w fun e w' => e = .returned (.tuple #[.string (d.get i).1.1, .int .i64 (d.get i).1.2]) ∧ Goes X w w' b (d.get i).2 := by
  obtain ⟨⟨m, g, pv, br, lf, hM, xb, xm, xg, xp⟩, hl⟩ := h
  refine (read_m hM i).mono ?_
  rintro e w' ⟨he, ht, hm⟩
  exact ⟨he, goes_of hl hm xb xm xg (fun k hk => .inl (xp k hk)) (ht.sub (fun k hk => by subst hk; exact xb))⟩

theorem write_c (h : Mine X w b d) (i : Int) (s : ByteArray) (hs : s.size ≤ maxLen) (hp : d.pend.length < 100000) : Calls Tryd.prog 29 #[ptr b, .int .i64 i, .string s] w fun e w' => e = .returned (.int .i64 (d.put i s).1) ∧ Goes X w w' b (d.put i s).2 := by
  have h0 := h
  obtain ⟨⟨m, g, pv, br, lf, hM, xb, xm, xg, xp⟩, hl⟩ := h
  by_cases hd : d.down = true
  · refine (write_no hM i s (.inl hd) hs).mono ?_
    rintro e w' ⟨he, rfl, hq⟩
    exact ⟨he, by rw [hq]; exact Goes.same h0⟩
  · by_cases hi : d.has i = true
    · by_cases h256 : s.size = 256
      · obtain ⟨h1, h2⟩ := of_decide_eq_true hi
        obtain ⟨n, rfl⟩ : ∃ n : Nat, i = n := ⟨i.toNat, by omega⟩
        refine (write_ok hM n (by omega) s h256 (by simpa using hd) hp).mono ?_
        rintro e w' ⟨he, pv', ht, hpv, hm⟩
        exact ⟨he, goes_of hl hm xb xm xg (fun k hk => (hpv k hk).imp (xp k) id) (ht.sub (fun k hk => by rcases hk with rfl | rfl | hk; exact xb; exact xm; exact xp k hk))⟩
      · refine (write_no hM i s (.inr (.inr h256)) hs).mono ?_
        rintro e w' ⟨he, rfl, hq⟩
        exact ⟨he, by rw [hq]; exact Goes.same h0⟩
    · refine (write_no hM i s (.inr (.inl (by simpa using hi))) hs).mono ?_
      rintro e w' ⟨he, rfl, hq⟩
      exact ⟨he, by rw [hq]; exact Goes.same h0⟩

/-- One disk all of whose blocks are newer than B; nothing older has turned since w0. -/
def One (B : Nat) (w0 w : World) (b : Nat) (d : Dk) : Prop := B ≤ w.heap.size ∧ Below B w0 w ∧ ∃ X, Mine X w b d ∧ ∀ k, X k → B ≤ k
theorem One.goes {B : Nat} {w0 : World} (hB : B ≤ w.heap.size) (hb : Below B w0 w) (hX : ∀ k, X k → B ≤ k) (hg : Goes X w w' b d') : One B w0 w' b d' := by
  obtain ⟨X', hm, ht, hx⟩ := hg
  exact ⟨Nat.le_trans hB ht.size, ht.below hb hB hX, X', hm, fun k hk => (hx k hk).elim (hX k) (fun h => by omega)⟩
theorem One.ok {B : Nat} {w0 : World} (h : One B w0 w b d) : d.Ok := by
  obtain ⟨_, _, X, ⟨⟨m, g, pv, br, lf, hM, _⟩, _⟩, _⟩ := h; exact hM.ok

end
end

/-! Sep -/
section
open Go.RowKit
set_option linter.unusedVariables false

/-- One byte, over and over. -/
def repS (n b : Nat) : ByteArray := ⟨Array.replicate n (UInt8.ofNat b)⟩
theorem repS_size (n b : Nat) : (repS n b).size = n := by simp [repS, ByteArray.size]
theorem repS_append (n m b : Nat) : repS n b ++ repS m b = repS (n + m) b := by
  apply ByteArray.ext
  rw [ByteArray.data_append]
  simp [repS]

/-- A thing in memory, with the blocks that it lies in. -/
abbrev Res := World → (Nat → Prop) → Prop
structure Good (r : Res) : Prop where
  kept : ∀ w w' X, r w X → (∀ k, X k → w'.heap[k]? = w.heap[k]?) → w.heap.size ≤ w'.heap.size → r w' X
  lt : ∀ w X, r w X → ∀ k, X k → k < w.heap.size

def Hp (w : World) : List Res → (Nat → Prop) → Prop
  | [], Y => ∀ k, ¬ Y k
  | r :: l, Y => Good r ∧ ∃ X Z, r w X ∧ Hp w l Z ∧ (∀ k, X k → ¬ Z k) ∧ ∀ k, Y k ↔ X k ∨ Z k

/-- These things lie apart, each in blocks from B on; below B all is as in w0. -/
def Sep (B : Nat) (w0 w : World) (l : List Res) : Prop := B ≤ w.heap.size ∧ Below B w0 w ∧ ∃ Y, Hp w l Y ∧ ∀ k, Y k → B ≤ k

theorem Hp.lt {w : World} : ∀ {l : List Res} {Y : Nat → Prop}, Hp w l Y → ∀ k, Y k → k < w.heap.size
  | [], _, h, k, hk => absurd hk (h k)
  | r :: l, _, ⟨g, X, Z, hr, hl, _, hy⟩, k, hk => by
    rcases (hy k).1 hk with h | h
    · exact g.lt w X hr k h
    · exact hl.lt k h
theorem Hp.kept {w w' : World} (hs : w.heap.size ≤ w'.heap.size) : ∀ {l : List Res} {Y : Nat → Prop}, Hp w l Y → (∀ k, Y k → w'.heap[k]? = w.heap[k]?) → Hp w' l Y
  | [], _, h, _ => h
  | r :: l, _, ⟨g, X, Z, hr, hl, hd, hy⟩, hk => ⟨g, X, Z, g.kept w w' X hr (fun k h => hk k ((hy k).2 (.inl h))) hs, hl.kept hs (fun k h => hk k ((hy k).2 (.inr h))), hd, hy⟩
theorem Hp.swap {w : World} {a b : Res} {l : List Res} {Y : Nat → Prop} (h : Hp w (a :: b :: l) Y) : Hp w (b :: a :: l) Y := by
  obtain ⟨ga, X, Z, ha, ⟨gb, X2, Z2, hb, hl, hd2, hy2⟩, hd, hy⟩ := h
  refine ⟨gb, X2, fun k => X k ∨ Z2 k, hb, ⟨ga, X, Z2, ha, hl, fun k hk h2 => hd k hk ((hy2 k).2 (.inr h2)), fun k => Iff.rfl⟩, fun k hk h2 => ?_, fun k => ?_⟩
  · rcases h2 with h2 | h2
    · exact hd k h2 ((hy2 k).2 (.inl hk))
    · exact hd2 k hk h2
  · rw [hy k, hy2 k]
    constructor
    · rintro (h | h | h)
      · exact .inr (.inl h)
      · exact .inl h
      · exact .inr (.inr h)
    · rintro (h | h | h)
      · exact .inr (.inl h)
      · exact .inl h
      · exact .inr (.inr h)
theorem Hp.under {w : World} {a : Res} {l l' : List Res} {Y : Nat → Prop} (h : Hp w (a :: l) Y) (f : ∀ Z, Hp w l Z → Hp w l' Z) : Hp w (a :: l') Y := by
  obtain ⟨ga, X, Z, ha, hl, hd, hy⟩ := h
  exact ⟨ga, X, Z, ha, f Z hl, hd, hy⟩

section
variable {B : Nat} {w0 w w' : World} {a b c e : Res} {l : List Res}
theorem Sep.map {l l' : List Res} (h : Sep B w0 w l) (f : ∀ Z, Hp w l Z → Hp w l' Z) : Sep B w0 w l' := by
  obtain ⟨hB, hb, Y, hl, hY⟩ := h
  exact ⟨hB, hb, Y, f Y hl, hY⟩
theorem Sep.up1 (h : Sep B w0 w (a :: b :: l)) : Sep B w0 w (b :: a :: l) := h.map fun _ => Hp.swap
theorem Sep.up2 (h : Sep B w0 w (a :: b :: c :: l)) : Sep B w0 w (c :: a :: b :: l) := (h.map fun _ h => Hp.under h fun _ => Hp.swap).up1
theorem Sep.up3 (h : Sep B w0 w (a :: b :: c :: e :: l)) : Sep B w0 w (e :: a :: b :: c :: l) := (h.map fun _ h => Hp.under h fun _ h => Hp.under h fun _ => Hp.swap).up2
theorem Sep.up4 {f : Res} (h : Sep B w0 w (a :: b :: c :: e :: f :: l)) : Sep B w0 w (f :: a :: b :: c :: e :: l) := (h.map fun _ h => Hp.under h fun _ h => Hp.under h fun _ h => Hp.under h fun _ => Hp.swap).up3
theorem Sep.dn2 (h : Sep B w0 w (c :: a :: b :: l)) : Sep B w0 w (a :: b :: c :: l) := h.up1.map fun _ h => Hp.under h fun _ => Hp.swap
theorem Sep.dn3 (h : Sep B w0 w (e :: a :: b :: c :: l)) : Sep B w0 w (a :: b :: c :: e :: l) := h.dn2.map fun _ h => Hp.under h fun _ h => Hp.under h fun _ => Hp.swap
theorem Sep.dn4 {f : Res} (h : Sep B w0 w (f :: a :: b :: c :: e :: l)) : Sep B w0 w (a :: b :: c :: e :: f :: l) := h.dn3.map fun _ h => Hp.under h fun _ h => Hp.under h fun _ h => Hp.under h fun _ => Hp.swap
theorem Sep.size (h : Sep B w0 w l) : B ≤ w.heap.size := h.1
theorem Sep.bel (h : Sep B w0 w l) : Below B w0 w := h.2.1

/-- New blocks alone. -/
theorem Sep.below {l : List Res} (h : Sep B w0 w l) (hb : Below w.heap.size w w') : Sep B w0 w' l := by
  obtain ⟨hB, hb0, Y, hl, hY⟩ := h
  exact ⟨Nat.le_trans hB hb.size, hb0.trans (hb.mono hB), Y, hl.kept hb.size (fun k hk => hb.block k (hl.lt k hk)), hY⟩
theorem Sep.alloc {l : List Res} (h : Sep B w0 w l) (o : Obj) : Sep B w0 (w.alloc o) l := h.below ((Below.refl _ _).alloc (Nat.le_refl _) o)
theorem Sep.drew {l : List Res} (h : Sep B w0 w l) : Sep B w0 w.drew l := h.below (Below.refl _ _).drew
theorem Sep.nil (hB : B ≤ w.heap.size) (hb : Below B w0 w) : Sep B w0 w [] := ⟨hB, hb, fun _ => False, fun _ h => h, fun _ h => h.elim⟩

/-- The first thing has turned, in its own blocks and new ones. -/
theorem Sep.step {a' : Res} (h : Sep B w0 w (a :: l)) (g' : Good a') (f : ∀ X, a w X → ∃ X', a' w' X' ∧ Turn X w w' ∧ ∀ k, X' k → X k ∨ w.heap.size ≤ k) : Sep B w0 w' (a' :: l) := by
  obtain ⟨hB, hb, Y, ⟨ga, X, Z, ha, hl, hd, hy⟩, hY⟩ := h
  obtain ⟨X', ha', ht, hx⟩ := f X ha
  have hlt := hl.lt
  refine ⟨Nat.le_trans hB ht.size, ht.below hb hB (fun k hk => hY k ((hy k).2 (.inl hk))), fun k => X' k ∨ Z k, ⟨g', X', Z, ha', hl.kept ht.size (fun k hk => ht.block k (hlt k hk) (fun hx => hd k hx hk)), fun k hk hz => ?_, fun k => Iff.rfl⟩, fun k hk => ?_⟩
  · rcases hx k hk with h1 | h1
    · exact hd k h1 hz
    · have := hlt k hz; omega
  · rcases hk with h1 | h1
    · rcases hx k h1 with h2 | h2
      · exact hY k ((hy k).2 (.inl h2))
      · omega
    · exact hY k ((hy k).2 (.inr h1))
/-- A new thing in new blocks. -/
theorem Sep.add {a' : Res} (h : Sep B w0 w l) (hb : Below w.heap.size w w') (g' : Good a') {X : Nat → Prop} (ha : a' w' X) (hX : ∀ k, X k → w.heap.size ≤ k) : Sep B w0 w' (a' :: l) := by
  have h' := h.below hb
  obtain ⟨hB, _, Y, hl, hY⟩ := h
  have hlt := hl.lt
  obtain ⟨hB', hb', _⟩ := h'
  refine ⟨hB', hb', fun k => X k ∨ Y k, ⟨g', X, Y, ha, hl.kept hb.size (fun k hk => hb.block k (hlt k hk)), fun k hk hz => ?_, fun k => Iff.rfl⟩, fun k hk => ?_⟩
  · have := hX k hk; have := hlt k hz; omega
  · rcases hk with h1 | h1
    · have := hX k h1; omega
    · exact hY k h1
end

/-- A disk. -/
def Disk (b : Nat) (d : Dk) : Res := fun w X => Mine X w b d
theorem good_disk (b : Nat) (d : Dk) : Good (Disk b d) :=
  ⟨fun w w' X h hk hs => by
    obtain ⟨⟨m, g, pv, br, lf, hM, xb, xm, xg, xp⟩, hl⟩ := h
    exact ⟨⟨m, g, pv, br, lf, hM.kept (hk _ xb) (hk _ xm) (hk _ xg) (fun k h => hk k (xp k h)), xb, xm, xg, xp⟩, fun k hk => Nat.lt_of_lt_of_le (hl k hk) hs⟩, fun w X h => h.2⟩

section
variable {B : Nat} {w0 w w' : World} {b : Nat} {d d' : Dk} {l : List Res}
theorem Sep.mine (h : Sep B w0 w (Disk b d :: l)) : ∃ X, Mine X w b d := by
  obtain ⟨_, _, Y, ⟨_, X, _, ha, _⟩, _⟩ := h; exact ⟨X, ha⟩
theorem Sep.ok (h : Sep B w0 w (Disk b d :: l)) : d.Ok := by
  obtain ⟨X, ⟨m, g, pv, br, lf, hM, _⟩, _⟩ := h.mine; exact hM.ok
theorem Calls.withSep {P : Program} {f : Nat} {args : Array Value} {Q : Ending → World → Prop} {v : Value} (h : Sep B w0 w (Disk b d :: l)) (hQ : ∀ X, Mine X w b d → Calls P f args w (fun e w' => e = .returned v ∧ Goes X w w' b d')) : Calls P f args w fun e w' => e = .returned v ∧ Sep B w0 w' (Disk b d' :: l) := by
  obtain ⟨hB, hb, Y, ⟨ga, X, Z, ha, hl, hd, hy⟩, hY⟩ := h
  refine (hQ X ha).mono ?_
  rintro e w' ⟨he, X', hm, ht, hx⟩
  refine ⟨he, Nat.le_trans hB ht.size, ht.below hb hB (fun k hk => hY k ((hy k).2 (.inl hk))), fun k => X' k ∨ Z k, ⟨good_disk b d', X', Z, hm, hl.kept ht.size (fun k hk => ht.block k (hl.lt k hk) (fun hx => hd k hx hk)), fun k hk hz => ?_, fun k => Iff.rfl⟩, fun k hk => ?_⟩
  · rcases hx k hk with h1 | h1
    · exact hd k h1 hz
    · have := hl.lt k hz; omega
  · rcases hk with h1 | h1
    · rcases hx k h1 with h2 | h2
      · exact hY k ((hy k).2 (.inl h2))
      · omega
    · exact hY k ((hy k).2 (.inr h1))

theorem new_s (n : Int) (h : Sep B w0 w l) : Calls Tryd.prog 7 #[.int .i64 n] w fun e w' => ∃ b, e = .returned (ptr b) ∧ Sep B w0 w' (Disk b (Dk.new n) :: l) := by
  refine (new_m n w).mono ?_
  rintro e w' ⟨b, he, hbl, hm⟩
  exact ⟨b, he, h.add hbl (good_disk _ _) hm (fun k hk => hk.1)⟩
theorem down_s (h : Sep B w0 w (Disk b d :: l)) : Calls Tryd.prog 48 #[ptr b] w fun e w' => e = .returned (.bool d.down) ∧ w = w' := by obtain ⟨X, hm⟩ := h.mine; exact down_c hm
theorem sectors_s (h : Sep B w0 w (Disk b d :: l)) : Calls Tryd.prog 68 #[ptr b] w fun e w' => e = .returned (.int .i64 d.sure.length) ∧ w = w' := by obtain ⟨X, hm⟩ := h.mine; exact sectors_c hm
theorem reads_s (h : Sep B w0 w (Disk b d :: l)) : Calls Tryd.prog 18 #[ptr b] w fun e w' => e = .returned (.int .i64 d.reads) ∧ w = w' := by obtain ⟨X, hm⟩ := h.mine; exact reads_c hm
theorem writes_s (h : Sep B w0 w (Disk b d :: l)) : Calls Tryd.prog 11 #[ptr b] w fun e w' => e = .returned (.int .i64 d.writes) ∧ w = w' := by obtain ⟨X, hm⟩ := h.mine; exact writes_c hm
theorem read_s (h : Sep B w0 w (Disk b d :: l)) (i : Int) : Calls Tryd.prog 80 #[ptr b, .int .i64 i] w fun e w' => e = .returned (.tuple #[.string (d.get i).1.1, .int .i64 (d.get i).1.2]) ∧ Sep B w0 w' (Disk b (d.get i).2 :: l) := Calls.withSep (Q := fun _ _ => True) h fun _ hm => read_c hm i
theorem write_s (h : Sep B w0 w (Disk b d :: l)) (i : Int) (s : ByteArray) (hs : s.size ≤ maxLen) (hp : d.pend.length < 100000) : Calls Tryd.prog 29 #[ptr b, .int .i64 i, .string s] w fun e w' => e = .returned (.int .i64 (d.put i s).1) ∧ Sep B w0 w' (Disk b (d.put i s).2 :: l) := Calls.withSep (Q := fun _ _ => True) h fun _ hm => write_c hm i s hs hp
end

/-- A row of values of one cell each, in a block of its own, or none. -/
def RowR (e : TypeId) (v : Value) (cs : List Value) : Res := fun w X => w.ownsRow 0 e 1 v cs.length cs ∧ ∀ k, X k ↔ v.ownBlock = some k
theorem good_row (e : TypeId) (v : Value) (cs : List Value) : Good (RowR e v cs) :=
  ⟨fun w w' X h hk _ => ⟨ownsRow_kept' h.1 (fun k hk' => hk k ((h.2 k).2 hk')), h.2⟩, fun w X h k hk => (h.1.lt k ((h.2 k).1 hk)).2⟩
section
variable {B : Nat} {w0 w w' : World} {l : List Res} {e : TypeId} {v : Value} {cs : List Value}
theorem Sep.addNil (h : Sep B w0 w l) (e : TypeId) : Sep B w0 w (RowR e (.slice none 0 0) [] :: l) :=
  h.add (Below.refl _ _) (good_row _ _ _) (X := fun _ => False) ⟨by simpa using World.ownsRow_nil w 0 e 1, fun k => by simp [Value.ownBlock]⟩ (fun _ h => h.elim)
theorem Sep.row (h : Sep B w0 w (RowR e v cs :: l)) : w.ownsRow 0 e 1 v cs.length cs := by
  obtain ⟨_, _, Y, ⟨_, X, _, ha, _⟩, _⟩ := h; exact ha.1
/-- What can be read of it. -/
theorem Sep.cell (h : Sep B w0 w (RowR e v cs :: l)) {j : Nat} (hj : j < cs.length) : ∃ r c, v = .slice (some ⟨r, 0, none⟩) cs.length c ∧ cs.length ≤ c ∧ r < w.heap.size ∧ w.cell? ⟨r, j, none⟩ = cs[j]? ∧ w.frozen? ⟨r, j, none⟩ = false := by
  have hr := h.row
  rcases hr.2 with ⟨_, h2⟩ | ⟨g, cap, cur, h1, _, hg, hc, _⟩
  · omega
  · rw [h1] at hr
    exact ⟨g, cap, h1, hc, (Array.getElem?_eq_some_iff.1 hg).1, hr.cellAt j (by omega), hr.frozenAt j⟩
theorem Sep.shape (h : Sep B w0 w (RowR e v cs :: l)) : ∃ ao c, v = .slice ao cs.length c := by
  rcases h.row.2 with ⟨h1, h2⟩ | ⟨g, cap, cur, h1, _⟩
  · exact ⟨none, 0, by rw [h1, h2]⟩
  · exact ⟨_, _, h1⟩
/-- A store into it. -/
theorem Sep.store {r c : Nat} (h : Sep B w0 w (RowR e (.slice (some ⟨r, 0, none⟩) cs.length c) cs :: l)) (j : Nat) (hj : j < cs.length) (u : Value) : Sep B w0 (w.setCell ⟨r, j, none⟩ u) (RowR e (.slice (some ⟨r, 0, none⟩) cs.length c) (cs.set j u) :: l) := by
  refine h.step (good_row _ _ _) fun X hX => ⟨X, ⟨?_, hX.2⟩, Turn.setCell (X := X) w ((hX.2 r).2 rfl) u, fun k hk => .inl hk⟩
  have := hX.1.stored j u
  rw [List.length_set]
  exact this.1
end

theorem infoStr : (Tryd.prog.info? 9).map (fun i => (i.zero, i.size, i.bytes)) = some (some (.string ByteArray.empty), 1, 16) := by kernel_rfl
theorem infoInt : (Tryd.prog.info? 3).map (fun i => (i.zero, i.size, i.bytes)) = some (some (.int .i64 0), 1, 8) := by kernel_rfl

section
variable {ops : Array Oper} {rest : List Oper} {o : Oper} {a : Act} {Q : Exit → Act → World → Prop} {B : Nat} {w0 w : World} {l : List Res}
theorem Sep.appended {e : TypeId} {v v' : Value} {cs : List Value} {u : Value} {w' : World} (h : Sep B w0 w (RowR e v cs :: l)) (h2 : w'.ownsRow 0 e 1 v' (cs.length + 1) (cs ++ [u])) (hg : w.grownBy w' v.ownBlock) (hloc : v'.ownBlock = v.ownBlock ∨ v'.ownBlock = some w.heap.size) : Sep B w0 w' (RowR e v' (cs ++ [u]) :: l) := by
  refine h.step (good_row _ _ _) fun X hX => ⟨fun k => v'.ownBlock = some k, ⟨by rw [List.length_append]; exact h2, fun k => Iff.rfl⟩, Turn.grown hg (fun k hk => (hX.2 k).2 hk), fun k hk => ?_⟩
  rcases hloc with e1 | e1
  · exact .inl ((hX.2 k).2 (e1 ▸ hk))
  · rw [e1] at hk
    exact .inr (Nat.le_of_eq (Option.some.inj hk))
theorem slice_of {e : TypeId} {v : Value} {n : Nat} {cs : List Value} (h : w.ownsRow 0 e 1 v n cs) : ∃ ao c, v = .slice ao n c := by
  rcases h.2 with ⟨h1, h2⟩ | ⟨g, cap, cur, h1, _⟩
  · exact ⟨none, 0, by rw [h1, h2]⟩
  · exact ⟨_, _, h1⟩

theorem app_str (hgd : o.guard = .none) (s x : Operand) (ho : o.op = .call { callee := .builtin .append, args := #[s, x], argTypes := #[51, 51] }) (v : Value) (cs : List Value) (hs : a.eval s = v) (h : Sep B w0 w (RowR 9 v cs :: l))
    (r c : Nat) (t : ByteArray) (hx : a.eval x = .slice (some ⟨r, 0, none⟩) 1 c) (c0 : w.cell? ⟨r, 0, none⟩ = some (.string t)) (hl : cs.length < 100000)
    (hK : ∀ ao n' c' w', Sep B w0 w' (RowR 9 (.slice ao n' c') (cs ++ [.string t]) :: l) → wpList Tryd.prog ops Q rest (a.put o.dst (.slice ao n' c')) w') : wpList Tryd.prog ops Q (o :: rest) a w := by
  obtain ⟨i0, hi, hz0, hz1, hz2⟩ := info_parts infoStr
  refine wpList_append_own_at w hgd s x 51 ho 0 9 i0 _ 1 16 Tryd.underlying51 hi hz0 hz1 hz2 rfl (by decide) v cs.length cs hs h.row ⟨r, 0, none⟩ 1 c [.string t] hx rfl (fun j u hj => ?_) (fun u hu => by simp at hu; subst hu; rfl) (by unfold maxLen; omega) (by omega) (Nat.zero_le _) ?_
  · match j, hj with
    | 0, hj => simp at hj; subst hj; exact c0
    | j + 1, hj => simp at hj
  · intro v' w' h2 h3 _ h5
    obtain ⟨ao, c', rfl⟩ := slice_of h2
    exact hK _ _ _ _ (h.appended h2 h3 h5)

theorem app_int (hgd : o.guard = .none) (s x : Operand) (ho : o.op = .call { callee := .builtin .append, args := #[s, x], argTypes := #[23, 23] }) (v : Value) (cs : List Value) (hs : a.eval s = v) (h : Sep B w0 w (RowR 3 v cs :: l))
    (r c : Nat) (t : Int) (hx : a.eval x = .slice (some ⟨r, 0, none⟩) 1 c) (c0 : w.cell? ⟨r, 0, none⟩ = some (.int .i64 t)) (hl : cs.length < 100000)
    (hK : ∀ ao n' c' w', Sep B w0 w' (RowR 3 (.slice ao n' c') (cs ++ [.int .i64 t]) :: l) → wpList Tryd.prog ops Q rest (a.put o.dst (.slice ao n' c')) w') : wpList Tryd.prog ops Q (o :: rest) a w := by
  obtain ⟨i0, hi, hz0, hz1, hz2⟩ := info_parts infoInt
  refine wpList_append_own_at w hgd s x 23 ho 0 3 i0 _ 1 8 Tryd.underlying23 hi hz0 hz1 hz2 rfl (by decide) v cs.length cs hs h.row ⟨r, 0, none⟩ 1 c [.int .i64 t] hx rfl (fun j u hj => ?_) (fun u hu => by simp at hu; subst hu; rfl) (by unfold maxLen; omega) (by omega) (Nat.zero_le _) ?_
  · match j, hj with
    | 0, hj => simp at hj; subst hj; exact c0
    | j + 1, hj => simp at hj
  · intro v' w' h2 h3 _ h5
    obtain ⟨ao, c', rfl⟩ := slice_of h2
    exact hK _ _ _ _ (h.appended h2 h3 h5)
end
end

/-! Up -/
section
open Go.RowKit
set_option linter.unusedVariables false

/-- The power is there, no Break stands, n sectors. -/
structure Up (n : Nat) (d : Dk) : Prop where
  dn : d.down = false
  br : d.brk = none
  sl : d.sure.length = n
theorem Up.new (n : Nat) (h : n ≤ 16384) : Up n (Dk.new n) := ⟨rfl, rfl, by simp [Dk.new]; omega⟩
theorem Up.get {n : Nat} {d : Dk} (h : Up n d) (j : Nat) (hj : j < n) : (d.get j).1 = (d.now j, 0) ∧ Up n (d.get j).2 ∧ (∀ i, (d.get j).2.now i = d.now i) ∧ (d.get j).2.pend = d.pend ∧ (d.get j).2.sure = d.sure := by
  rw [Dk.get_ok h.dn (Dk.has_nat (by rw [h.sl]; exact hj))]
  exact ⟨rfl, ⟨h.dn, h.br, h.sl⟩, fun _ => rfl, rfl, rfl⟩
/-- A write to a disk that is up: it is OK and reads so then, or it errs and nothing has turned. -/
theorem Up.put {n : Nat} {d : Dk} (h : Up n d) (i : Int) (s : ByteArray) :
    ((d.put i s).1 = 0 ∧ 0 ≤ i ∧ i < n ∧ s.size = 256 ∧ Up n (d.put i s).2 ∧ (d.put i s).2.pend = d.pend ++ [(i.toNat, s)] ∧ (d.put i s).2.sure = d.sure ∧ (d.put i s).2.reads = d.reads ∧ (d.put i s).2.writes = wrap64 (d.writes + 1)) ∨
    ((d.put i s).1 ≠ 0 ∧ (d.put i s).2 = d ∧ ¬ (0 ≤ i ∧ i < n ∧ s.size = 256)) := by
  by_cases hi : d.has i = true
  · by_cases hs : s.size = 256
    · have e := Dk.put_ok h.dn hi hs
      unfold Dk.tick at e
      rw [show ({ d with pend := d.pend ++ [(i.toNat, s)], writes := wrap64 (d.writes + 1) } : Dk).brk = none from h.br] at e
      rw [e]
      have := of_decide_eq_true hi
      exact .inl ⟨rfl, this.1, by rw [← h.sl]; exact this.2, hs, ⟨h.dn, rfl, h.sl⟩, rfl, rfl, rfl, rfl⟩
    · rw [Dk.put_arg h.dn hi hs]
      exact .inr ⟨by show (1 : Int) ≠ 0; decide, rfl, fun h => hs h.2.2⟩
  · rw [Dk.put_range h.dn (by simpa using hi)]
    refine .inr ⟨by show (40 : Int) ≠ 0; decide, rfl, fun h2 => hi ?_⟩
    unfold Dk.has
    exact decide_eq_true ⟨h2.1, by rw [h.sl]; exact h2.2.1⟩
theorem now_snoc {d d' : Dk} {i : Nat} {s : ByteArray} (hp : d'.pend = d.pend ++ [(i, s)]) (hs : d'.sure = d.sure) (j : Nat) : d'.now j = if i = j then s else d.now j := by
  unfold Dk.now; rw [hp, hs, nowTo_snoc]
theorem Up.sync {n : Nat} {d : Dk} (h : Up n d) (ok : d.Ok) : d.sync.1 = 0 ∧ Up n d.sync.2 ∧ (∀ j, d.sync.2.now j = d.now j) ∧ d.sync.2.pend = [] ∧ ∀ j, sAt d.sync.2.sure j = d.now j := by
  rw [Dk.sync_ok h.dn]
  have e : ∀ j, sAt (syncTo d.pend d.sure d.pend.length) j = d.now j := fun j => syncTo_now ok j _ (Nat.le_refl _)
  exact ⟨rfl, ⟨h.dn, h.br, by show (syncTo _ _ _).length = n; rw [syncTo_length]; exact h.sl⟩, e, rfl, e⟩

theorem Sep.lt {B : Nat} {w0 w : World} {b : Nat} {d : Dk} {l : List Res} (h : Sep B w0 w (Disk b d :: l)) : b < w.heap.size := by
  obtain ⟨X, ⟨m, g, pv, br, lf, hM, _⟩, _⟩ := h.mine; exact hM.bl
theorem Sep.str_at {B : Nat} {w0 w : World} {r c : Nat} {l : List Res} {want : List ByteArray} {n i : Nat} (h : Sep B w0 w (RowR 9 (.slice (some ⟨r, 0, none⟩) n c) (want.map .string) :: l)) (hi : i < want.length) : w.cell? ⟨r, i, none⟩ = some (.string (sAt want i)) := by
  obtain ⟨r', c', e, _, _, hc, _⟩ := h.cell (j := i) (by simpa using hi)
  cases e
  rw [hc]
  simp [sAt, List.getD_eq_getElem?_getD, hi]
theorem Sep.str_fz {B : Nat} {w0 w : World} {r c : Nat} {l : List Res} {want : List ByteArray} {n i : Nat} (h : Sep B w0 w (RowR 9 (.slice (some ⟨r, 0, none⟩) n c) (want.map .string) :: l)) (hi : i < want.length) : w.frozen? ⟨r, i, none⟩ = false := by
  obtain ⟨r', c', e, _, _, _, hf⟩ := h.cell (j := i) (by simpa using hi)
  cases e
  exact hf
theorem Sep.str_set {B : Nat} {w0 w : World} {r c : Nat} {l : List Res} {want : List ByteArray} {n i : Nat} {s : ByteArray} (h : Sep B w0 w (RowR 9 (.slice (some ⟨r, 0, none⟩) n c) (want.map .string) :: l)) (hi : i < want.length) (hn : want.length = n) : Sep B w0 (w.setCell ⟨r, i, none⟩ (.string s)) (RowR 9 (.slice (some ⟨r, 0, none⟩) n c) ((want.set i s).map .string) :: l) := by
  subst hn
  have e : want.length = (want.map Value.string).length := by simp
  rw [e] at h ⊢
  rw [List.map_set]
  exact h.store i (by simpa using hi) _
end

/-! Up2 -/
section
open Go.RowKit
set_option linter.unusedVariables false

theorem Up.now_sure {n : Nat} {d : Dk} (_h : Up n d) (hp : d.pend = []) (j : Nat) : d.now j = sAt d.sure j := by unfold Dk.now; rw [hp]; rfl
theorem Up.sureAt {n : Nat} {d : Dk} (h : Up n d) {j : Nat} (hj : j < n) : d.sureAt j = sAt d.sure j := by
  unfold Dk.sureAt; rw [if_pos (Dk.has_nat (by rw [h.sl]; exact hj))]; rfl
theorem Up.crash {n : Nat} {d : Dk} (h : Up n d) (keep : List Int) (torn cut : Int) : Up n (d.crash keep torn cut) := ⟨rfl, rfl, by rw [Dk.crash_length]; exact h.sl⟩

theorem IntRow.cells {w wr : World} {ao : Option Addr} {n cap : Nat} {l : List Int} {B : Nat} (h : IntRow w (.slice ao n cap) l) (hb : Below B w wr) (hB : w.heap.size ≤ B) {j : Nat} (hj : j < l.length) : ∃ r o, ao = some ⟨r, o, none⟩ ∧ r < wr.heap.size ∧ wr.cell? ⟨r, o + j, none⟩ = some (.int .i64 (l.getD j 0)) := by
  obtain ⟨ao', cap', e, h1⟩ := h.below hb hB
  cases e
  obtain ⟨r, o, e2, hr, hc⟩ := h1 (by intro e; rw [e] at hj; simp at hj)
  exact ⟨r, o, e2, hr, hc j hj⟩
theorem IntRow.cells2 {w wr : World} {r o n cap : Nat} {l : List Int} {B : Nat} (h : IntRow w (.slice (some ⟨r, o, none⟩) n cap) l) (hb : Below B w wr) (hB : w.heap.size ≤ B) {j : Nat} (hj : j < l.length) : wr.cell? ⟨r, o + j, none⟩ = some (.int .i64 (l.getD j 0)) := by
  obtain ⟨r', o', e, _, hc⟩ := h.cells hb hB hj
  cases e
  exact hc

theorem Sep.drewN {B : Nat} {w0 w : World} {l : List Res} (h : Sep B w0 w l) (n : Nat) : Sep B w0 (w.drewN n) l := h.below ⟨rfl, rfl, rfl, Nat.le_refl _, fun _ _ => rfl⟩
theorem was_snoc {d : Dk} {t : Nat} {was : List ByteArray} (h1 : was.length = t) (h2 : ∀ j, j < t → sAt d.sure j = sAt was j) : (was ++ [sAt d.sure t]).length = t + 1 ∧ ∀ j, j < t + 1 → sAt d.sure j = sAt (was ++ [sAt d.sure t]) j := by
  refine ⟨by simp [h1], fun j hj => ?_⟩
  rcases Nat.lt_or_eq_of_le (Nat.le_of_lt_succ hj) with hj2 | hj2
  · rw [h2 j hj2]; unfold sAt
    rw [List.getD_eq_getElem?_getD, List.getD_eq_getElem?_getD, List.getElem?_append_left (by omega)]
  · subst hj2; subst h1; simp [sAt, List.getD_eq_getElem?_getD]
theorem now_snoc_was {d : Dk} {t : Nat} {was : List ByteArray} (h1 : was.length = t) (h2 : ∀ j, j < t → d.now j = sAt was j) : (was ++ [d.now t]).length = t + 1 ∧ ∀ j, j < t + 1 → d.now j = sAt (was ++ [d.now t]) j := by
  refine ⟨by simp [h1], fun j hj => ?_⟩
  rcases Nat.lt_or_eq_of_le (Nat.le_of_lt_succ hj) with hj2 | hj2
  · rw [h2 j hj2]; unfold sAt
    rw [List.getD_eq_getElem?_getD, List.getD_eq_getElem?_getD, List.getElem?_append_left (by omega)]
  · subst hj2; subst h1; simp [sAt, List.getD_eq_getElem?_getD]
end

/-! PfKit -/
section
open Go.RowKit
set_option linter.unusedVariables false

/-- Two things as one. -/
def Both (r s : Res) : Res := fun w X => ∃ X1 X2, r w X1 ∧ s w X2 ∧ (∀ k, X1 k → ¬ X2 k) ∧ ∀ k, X k ↔ X1 k ∨ X2 k
theorem good_both {r s : Res} (gr : Good r) (gs : Good s) : Good (Both r s) :=
  ⟨fun w w' X ⟨X1, X2, h1, h2, hd, hx⟩ hk hs => ⟨X1, X2, gr.kept w w' X1 h1 (fun k h => hk k ((hx k).2 (.inl h))) hs, gs.kept w w' X2 h2 (fun k h => hk k ((hx k).2 (.inr h))) hs, hd, hx⟩,
   fun w X ⟨X1, X2, h1, h2, _, hx⟩ k hk => ((hx k).1 hk).elim (gr.lt w X1 h1 k) (gs.lt w X2 h2 k)⟩
theorem Hp.join {w : World} {r s : Res} {l : List Res} {Y : Nat → Prop} (h : Hp w (r :: s :: l) Y) : Hp w (Both r s :: l) Y := by
  obtain ⟨gr, X1, Z1, hr, ⟨gs, X2, Z2, hs, hl, hd2, hy2⟩, hd1, hy1⟩ := h
  refine ⟨good_both gr gs, fun k => X1 k ∨ X2 k, Z2, ⟨X1, X2, hr, hs, fun k h1 h2 => hd1 k h1 ((hy2 k).2 (.inl h2)), fun _ => Iff.rfl⟩, hl, fun k hk hz => ?_, fun k => ?_⟩
  · rcases hk with h1 | h1
    · exact hd1 k h1 ((hy2 k).2 (.inr hz))
    · exact hd2 k h1 hz
  · rw [hy1 k, hy2 k, or_assoc]
theorem Hp.part {w : World} {r s : Res} {l : List Res} {Y : Nat → Prop} (gr : Good r) (gs : Good s) (h : Hp w (Both r s :: l) Y) : Hp w (r :: s :: l) Y := by
  obtain ⟨_, X, Z, ⟨X1, X2, hr, hs, hd, hx⟩, hl, hdz, hy⟩ := h
  refine ⟨gr, X1, fun k => X2 k ∨ Z k, hr, ⟨gs, X2, Z, hs, hl, fun k h1 h2 => hdz k ((hx k).2 (.inr h1)) h2, fun _ => Iff.rfl⟩, fun k h1 h2 => ?_, fun k => ?_⟩
  · rcases h2 with h2 | h2
    · exact hd k h1 h2
    · exact hdz k ((hx k).2 (.inl h1)) h2
  · rw [hy k, hx k, or_assoc]
theorem Sep.join {B : Nat} {w0 w : World} {r s : Res} {l : List Res} (h : Sep B w0 w (r :: s :: l)) : Sep B w0 w (Both r s :: l) := h.map fun _ => Hp.join

/-- A block that nobody writes. -/
def Blk (q : Nat) (o : Obj) : Res := fun w X => w.heap[q]? = some o ∧ ∀ k, X k ↔ k = q
theorem good_blk (q : Nat) (o : Obj) : Good (Blk q o) :=
  ⟨fun w w' X h hk _ => ⟨(hk q ((h.2 q).2 rfl)).trans h.1, h.2⟩, fun w X h k hk => by rw [(h.2 k).1 hk]; exact (Array.getElem?_eq_some_iff.1 h.1).1⟩
theorem Sep.addBlk {B : Nat} {w0 w : World} {l : List Res} (h : Sep B w0 w l) (o : Obj) : Sep B w0 (w.alloc o) (Blk w.heap.size o :: l) :=
  h.add ((Below.refl _ _).alloc (Nat.le_refl _) _) (good_blk _ _) (X := fun k => k = w.heap.size) ⟨heap_alloc_new w o, fun _ => Iff.rfl⟩ (fun k hk => Nat.le_of_eq hk.symm)
theorem Sep.blk {B : Nat} {w0 w : World} {l : List Res} {q : Nat} {o : Obj} (h : Sep B w0 w (Blk q o :: l)) : w.heap[q]? = some o := by
  obtain ⟨_, _, Y, ⟨_, X, _, ha, _⟩, _⟩ := h; exact ha.1
theorem Sep.drop {B : Nat} {w0 w : World} {l : List Res} {a : Res} (h : Sep B w0 w (a :: l)) : Sep B w0 w l := by
  obtain ⟨hB, hb, Y, ⟨_, X, Z, _, hl, _, hy⟩, hY⟩ := h
  exact ⟨hB, hb, Z, hl, fun k hk => hY k ((hy k).2 (.inr hk))⟩
theorem quietly {P : Program} {f : Nat} {args : Array Value} {v : Value} {W : World} (h : ∀ m, Calls P f args (W.drewN m) fun e w' => e = .returned v ∧ W.drewN m = w') (m : Nat) : Calls P f args (W.drewN m) fun e w'' => e = .returned v ∧ ∃ k, w'' = W.drewN k :=
  (h m).mono fun _ _ h => ⟨h.1, m, h.2.symm⟩
theorem Dk.put_len (d : Dk) (i : Int) (s : ByteArray) {t : Nat} (h : d.pend.length ≤ t) : (d.put i s).2.pend.length ≤ t + 1 := Nat.le_trans (d.put_sure i s).2 (by omega)

/-- A row that was just made. -/
theorem Sep.addRow {B : Nat} {w0 w : World} {l : List Res} (h : Sep B w0 w l) (e : TypeId) (cs : List Value) (n : Nat) (hn : cs.length = n) (hm : n ≤ 1000) : Sep B w0 (w.alloc (.cells cs.toArray e)) (RowR e (.slice (some ⟨w.heap.size, 0, none⟩) n n) cs :: l) := by
  subst hn
  exact h.add ((Below.refl _ _).alloc (Nat.le_refl _) _) (good_row _ _ _) (X := fun k => k = w.heap.size) ⟨World.ownsRow_lit w _ cs.length (Nat.zero_le _) (by unfold maxLen; omega) (by simp), fun k => by simp [Value.ownBlock, eq_comm]⟩ (fun k hk => Nat.le_of_eq hk.symm)

def bAt (l : List Bool) (i : Nat) : Bool := l.getD i false
theorem Sep.bool_at {B : Nat} {w0 w : World} {r c : Nat} {l : List Res} {tl : List Bool} {n i : Nat} (h : Sep B w0 w (RowR 4 (.slice (some ⟨r, 0, none⟩) n c) (tl.map .bool) :: l)) (hi : i < tl.length) : w.cell? ⟨r, i, none⟩ = some (.bool (bAt tl i)) ∧ w.frozen? ⟨r, i, none⟩ = false := by
  obtain ⟨r', c', e, _, _, hc, hf⟩ := h.cell (j := i) (by simpa using hi)
  cases e
  rw [hc]
  exact ⟨by simp [bAt, List.getD_eq_getElem?_getD, hi], hf⟩
theorem Sep.bool_set {B : Nat} {w0 w : World} {r c : Nat} {l : List Res} {tl : List Bool} {n i : Nat} {s : Bool} (h : Sep B w0 w (RowR 4 (.slice (some ⟨r, 0, none⟩) n c) (tl.map .bool) :: l)) (hi : i < tl.length) (hn : tl.length = n) : Sep B w0 (w.setCell ⟨r, i, none⟩ (.bool s)) (RowR 4 (.slice (some ⟨r, 0, none⟩) n c) ((tl.set i s).map .bool) :: l) := by
  subst hn
  have e : tl.length = (tl.map Value.bool).length := by simp
  rw [e] at h ⊢
  rw [List.map_set]
  exact h.store i (by simpa using hi) _
theorem bAt_set (tl : List Bool) {i j : Nat} (hi : i < tl.length) : bAt (tl.set i true) j = if i = j then true else bAt tl j := by
  unfold bAt
  rw [List.getD_eq_getElem?_getD, List.getElem?_set]
  by_cases h : i = j
  · subst h; simp [hi]
  · simp [h, List.getD_eq_getElem?_getD]

/-- Kinds. -/
def kdV (k : UInt8) : Value := .int .u8 (k.toNat : Int)
def kAt (l : List UInt8) (i : Nat) : UInt8 := l.getD i 0
theorem Sep.kind_at {B : Nat} {w0 w : World} {r c : Nat} {l : List Res} {tl : List UInt8} {n i : Nat} (h : Sep B w0 w (RowR 35 (.slice (some ⟨r, 0, none⟩) n c) (tl.map kdV) :: l)) (hi : i < tl.length) : w.cell? ⟨r, i, none⟩ = some (.int .u8 ((kAt tl i).toNat : Int)) ∧ w.frozen? ⟨r, i, none⟩ = false := by
  obtain ⟨r', c', e, _, _, hc, hf⟩ := h.cell (j := i) (by simpa using hi)
  cases e
  rw [hc]
  exact ⟨by simp [kAt, kdV, List.getD_eq_getElem?_getD, hi], hf⟩
theorem Sep.kind_set {B : Nat} {w0 w : World} {r c : Nat} {l : List Res} {tl : List UInt8} {n i : Nat} {s : UInt8} (h : Sep B w0 w (RowR 35 (.slice (some ⟨r, 0, none⟩) n c) (tl.map kdV) :: l)) (hi : i < tl.length) (hn : tl.length = n) : Sep B w0 (w.setCell ⟨r, i, none⟩ (.int .u8 (s.toNat : Int))) (RowR 35 (.slice (some ⟨r, 0, none⟩) n c) ((tl.set i s).map kdV) :: l) := by
  subst hn
  have e : tl.length = (tl.map kdV).length := by simp
  rw [e] at h ⊢
  rw [List.map_set]
  exact h.store i (by simpa using hi) _
theorem kAt_set (tl : List UInt8) {i j : Nat} (hi : i < tl.length) (s : UInt8) : kAt (tl.set i s) j = if i = j then s else kAt tl j := by
  unfold kAt
  rw [List.getD_eq_getElem?_getD, List.getElem?_set]
  by_cases h : i = j
  · subst h; simp [hi]
  · simp [h, List.getD_eq_getElem?_getD]
end

end Go.Proofs.YtnjnggjbeklmpaaDoor
