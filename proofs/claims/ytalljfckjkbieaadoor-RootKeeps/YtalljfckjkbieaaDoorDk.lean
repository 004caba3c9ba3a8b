/-
  The document's disk as a plain function of what it was: what is sure, what is pending, when the power goes, counts.
-/
import Derived.Test.YtalljfckjkbieaaDoorRows
import Derived.WalkKit
import Derived.WalkSpells
import Derived.WalkLawsBesides
namespace Go.Proofs.YtalljfckjkbieaaDoor
open Go.RowKit
set_option linter.unusedVariables false

abbrev Wr := Nat × ByteArray

structure Dk where
  sure : List ByteArray
  pend : List Wr
  brk : Option Nat
  down : Bool
  reads : Int
  writes : Int

def tear (n : Nat) (new old : ByteArray) : ByteArray := new.extract 0 n ++ old.extract n old.size
def wAt (l : List Wr) (k : Nat) : Wr := l.getD k (0, ByteArray.empty)
def sAt (l : List ByteArray) (i : Nat) : ByteArray := l.getD i ByteArray.empty

/-- The text that a sector reads as, over the first n pending writes. -/
def nowTo (sure : List ByteArray) (pend : List Wr) (i : Nat) (n : Nat) : ByteArray := (List.range n).foldl (fun s k => if (wAt pend k).1 = i then (wAt pend k).2 else s) (sAt sure i)
def Dk.now (d : Dk) (i : Nat) : ByteArray := nowTo d.sure d.pend i d.pend.length
def lastTo (pend : List Wr) (i : Nat) (n : Nat) : Option ByteArray := (List.range n).foldl (fun s k => if (wAt pend k).1 = i then some (wAt pend k).2 else s) none

def syncTo (pend : List Wr) (sure : List ByteArray) (n : Nat) : List ByteArray := (List.range n).foldl (fun s k => s.set (wAt pend k).1 (wAt pend k).2) sure
def clampN (c : Int) : Nat := (min (max c 0) 256).toNat
def crashStep (pend : List Wr) (keep : List Int) (torn cut : Int) (s : List ByteArray) (k : Nat) : List ByteArray :=
  if keep.contains (k : Int) then s.set (wAt pend k).1 (tear (if (k : Int) = torn then clampN cut else 256) (wAt pend k).2 (sAt s (wAt pend k).1)) else s
def crashTo (pend : List Wr) (keep : List Int) (torn cut : Int) (sure : List ByteArray) (n : Nat) : List ByteArray := (List.range n).foldl (crashStep pend keep torn cut) sure

def zeroS : ByteArray := ⟨Array.replicate 256 0⟩
def Dk.new (n : Int) : Dk := ⟨List.replicate (min (max n 0) 16384).toNat zeroS, [], none, false, 0, 0⟩
def Dk.has (d : Dk) (i : Int) : Bool := decide (0 ≤ i ∧ i < d.sure.length)
def Dk.get (d : Dk) (i : Int) : (ByteArray × Int) × Dk :=
  if d.down then ((ByteArray.empty, 4), d) else if d.has i then ((d.now i.toNat, 0), { d with reads := wrap64 (d.reads + 1) }) else ((ByteArray.empty, 40), d)
def Dk.tick (d : Dk) : Int × Dk :=
  match d.brk with
  | none => (0, d)
  | some 0 => (4, { d with down := true, brk := none })
  | some (k + 1) => (0, { d with brk := some k })
def Dk.put (d : Dk) (i : Int) (s : ByteArray) : Int × Dk :=
  if d.down then (4, d) else if d.has i then (if s.size = 256 then { d with pend := d.pend ++ [(i.toNat, s)], writes := wrap64 (d.writes + 1) : Dk }.tick else (1, d)) else (40, d)
def Dk.sync (d : Dk) : Int × Dk :=
  if d.down then (4, d) else (0, { d with sure := syncTo d.pend d.sure d.pend.length, pend := [] })
def Dk.stop (d : Dk) (n : Int) : Dk := { d with brk := if n < 0 then none else some n.toNat }
def Dk.crash (d : Dk) (keep : List Int) (torn cut : Int) : Dk :=
  { d with sure := crashTo d.pend keep torn cut d.sure d.pend.length, pend := [], brk := none, down := false }
def Dk.sureAt (d : Dk) (i : Int) : ByteArray := if d.has i then sAt d.sure i.toNat else ByteArray.empty

/-- All texts have 256 bytes, all pending writes a sector; the numbers are Go's. -/
structure Dk.Ok (d : Dk) : Prop where
  len : d.sure.length ≤ 16384
  sz : ∀ s ∈ d.sure, s.size = 256
  pd : ∀ p ∈ d.pend, p.1 < d.sure.length ∧ p.2.size = 256
  brk : ∀ k, d.brk = some k → k ≤ 9223372036854775807

theorem sAt_size {l : List ByteArray} (h : ∀ s ∈ l, s.size = 256) {i : Nat} (hi : i < l.length) : (sAt l i).size = 256 := by
  unfold sAt; rw [List.getD_eq_getElem?_getD, List.getElem?_eq_getElem hi]; exact h _ (List.getElem_mem hi)
theorem wAt_ok {d : Dk} (h : d.Ok) {k : Nat} (hk : k < d.pend.length) : (wAt d.pend k).1 < d.sure.length ∧ (wAt d.pend k).2.size = 256 := by
  unfold wAt; rw [List.getD_eq_getElem?_getD, List.getElem?_eq_getElem hk]; exact h.pd _ (List.getElem_mem hk)
theorem tear_size {n : Nat} (hn : n ≤ 256) {a b : ByteArray} (ha : a.size = 256) (hb : b.size = 256) : (tear n a b).size = 256 := by
  unfold tear; rw [ByteArray.size_append, ByteArray.size_extract, ByteArray.size_extract]; omega
theorem tear_all {a b : ByteArray} (ha : a.size = 256) (hb : b.size = 256) : tear 256 a b = a := by
  unfold tear
  rw [show b.extract 256 b.size = ByteArray.empty by rw [hb]; simp, show a.extract 0 256 = a by rw [← ha]; simp]
  simp
theorem clampN_le (c : Int) : clampN c ≤ 256 := by unfold clampN; omega

theorem nowTo_zero (s : List ByteArray) (p : List Wr) (i : Nat) : nowTo s p i 0 = sAt s i := rfl
theorem nowTo_succ (s : List ByteArray) (p : List Wr) (i n : Nat) : nowTo s p i (n + 1) = if (wAt p n).1 = i then (wAt p n).2 else nowTo s p i n := by simp [nowTo, List.range_succ]
theorem lastTo_succ (p : List Wr) (i n : Nat) : lastTo p i (n + 1) = if (wAt p n).1 = i then some (wAt p n).2 else lastTo p i n := by simp [lastTo, List.range_succ]
theorem syncTo_succ (p : List Wr) (s : List ByteArray) (n : Nat) : syncTo p s (n + 1) = (syncTo p s n).set (wAt p n).1 (wAt p n).2 := by simp [syncTo, List.range_succ]
theorem crashTo_succ (p : List Wr) (keep : List Int) (torn cut : Int) (s : List ByteArray) (n : Nat) : crashTo p keep torn cut s (n + 1) = crashStep p keep torn cut (crashTo p keep torn cut s n) n := by simp [crashTo, List.range_succ]

theorem nowTo_last (s : List ByteArray) (p : List Wr) (i : Nat) : ∀ n, nowTo s p i n = (lastTo p i n).getD (sAt s i)
  | 0 => rfl
  | n + 1 => by rw [nowTo_succ, lastTo_succ, nowTo_last s p i n]; split <;> rfl

theorem wAt_snoc_lt (l : List Wr) (x : Wr) {k : Nat} (h : k < l.length) : wAt (l ++ [x]) k = wAt l k := by
  unfold wAt; rw [List.getD_eq_getElem?_getD, List.getD_eq_getElem?_getD, List.getElem?_append_left h]
theorem wAt_snoc (l : List Wr) (x : Wr) : wAt (l ++ [x]) l.length = x := by
  unfold wAt; rw [List.getD_eq_getElem?_getD]; simp
theorem lastTo_congr (l m : List Wr) (i : Nat) : ∀ n, (∀ k, k < n → wAt l k = wAt m k) → lastTo l i n = lastTo m i n
  | 0, _ => rfl
  | n + 1, h => by rw [lastTo_succ, lastTo_succ, h n (Nat.lt_succ_self _), lastTo_congr l m i n fun k hk => h k (by omega)]
theorem nowTo_congr (s : List ByteArray) (l m : List Wr) (i n : Nat) (h : ∀ k, k < n → wAt l k = wAt m k) : nowTo s l i n = nowTo s m i n := by rw [nowTo_last, nowTo_last, lastTo_congr l m i n h]
theorem lastTo_snoc (l : List Wr) (x : Wr) (i : Nat) : lastTo (l ++ [x]) i (l ++ [x]).length = if x.1 = i then some x.2 else lastTo l i l.length := by
  rw [show (l ++ [x]).length = l.length + 1 by simp, lastTo_succ, wAt_snoc, lastTo_congr (l ++ [x]) l i l.length fun k hk => wAt_snoc_lt l x hk]
theorem nowTo_snoc (s : List ByteArray) (l : List Wr) (x : Wr) (i : Nat) : nowTo s (l ++ [x]) i (l ++ [x]).length = if x.1 = i then x.2 else nowTo s l i l.length := by
  rw [nowTo_last, nowTo_last, lastTo_snoc]; split <;> rfl

theorem syncTo_length (p : List Wr) (s : List ByteArray) : ∀ n, (syncTo p s n).length = s.length
  | 0 => rfl
  | n + 1 => by rw [syncTo_succ, List.length_set, syncTo_length p s n]
theorem crashStep_length (p : List Wr) (keep : List Int) (torn cut : Int) (s : List ByteArray) (k : Nat) : (crashStep p keep torn cut s k).length = s.length := by unfold crashStep; split <;> simp
theorem crashTo_length (p : List Wr) (keep : List Int) (torn cut : Int) (s : List ByteArray) : ∀ n, (crashTo p keep torn cut s n).length = s.length
  | 0 => rfl
  | n + 1 => by rw [crashTo_succ, crashStep_length, crashTo_length p keep torn cut s n]
theorem set_sizes {l : List ByteArray} (h : ∀ s ∈ l, s.size = 256) {i : Nat} {x : ByteArray} (hx : x.size = 256) : ∀ s ∈ l.set i x, s.size = 256 := fun s hs => by
  rcases List.mem_or_eq_of_mem_set hs with h1 | h1
  · exact h s h1
  · rw [h1]; exact hx
theorem syncTo_sizes {d : Dk} (h : d.Ok) : ∀ n, n ≤ d.pend.length → ∀ s ∈ syncTo d.pend d.sure n, s.size = 256
  | 0, _ => h.sz
  | n + 1, hn => by rw [syncTo_succ]; exact set_sizes (syncTo_sizes h n (by omega)) (wAt_ok h (by omega)).2
theorem crashTo_sizes {d : Dk} (h : d.Ok) (keep : List Int) (torn cut : Int) : ∀ n, n ≤ d.pend.length → ∀ s ∈ crashTo d.pend keep torn cut d.sure n, s.size = 256
  | 0, _ => h.sz
  | n + 1, hn => by
    have ih := crashTo_sizes h keep torn cut n (by omega)
    rw [crashTo_succ]
    unfold crashStep
    split
    · refine set_sizes ih (tear_size ?_ (wAt_ok h (by omega)).2 (sAt_size ih ?_))
      · split
        · exact clampN_le _
        · exact Nat.le_refl _
      · rw [crashTo_length]; exact (wAt_ok h (by omega)).1
    · exact ih

theorem zeroS_size : zeroS.size = 256 := by decide +kernel
theorem Dk.new_ok (n : Int) : (Dk.new n).Ok := by
  refine ⟨?_, fun s hs => ?_, fun p hp => ?_, fun k hk => ?_⟩
  · simp [Dk.new]; omega
  · simp only [Dk.new, List.mem_replicate] at hs; rw [hs.2]; exact zeroS_size
  · simp [Dk.new] at hp
  · simp [Dk.new] at hk
theorem Dk.Ok.get {d : Dk} (h : d.Ok) (i : Int) : (d.get i).2.Ok := by
  unfold Dk.get; split
  · exact h
  · split
    · exact ⟨h.len, h.sz, h.pd, h.brk⟩
    · exact h
theorem Dk.Ok.tick {d : Dk} (h : d.Ok) : d.tick.2.Ok := by
  unfold Dk.tick; split
  · exact h
  · exact ⟨h.len, h.sz, h.pd, (fun k hk => by cases hk)⟩
  · rename_i k hk
    exact ⟨h.len, h.sz, h.pd, fun j hj => by have := h.brk _ hk; cases hj; omega⟩
theorem Dk.Ok.put {d : Dk} (h : d.Ok) (i : Int) (s : ByteArray) : (d.put i s).2.Ok := by
  unfold Dk.put; split
  · exact h
  · split
    · split
      · rename_i h2 h3
        refine Dk.Ok.tick ⟨h.len, h.sz, fun p hp => ?_, h.brk⟩
        rcases List.mem_append.1 hp with h1 | h1
        · exact h.pd p h1
        · simp only [List.mem_singleton] at h1
          subst h1
          have := of_decide_eq_true h2
          exact ⟨by show i.toNat < d.sure.length; omega, h3⟩
      · exact h
    · exact h
theorem Dk.Ok.sync {d : Dk} (h : d.Ok) : d.sync.2.Ok := by
  unfold Dk.sync; split
  · exact h
  · exact ⟨by show (syncTo _ _ _).length ≤ _; rw [syncTo_length]; exact h.len, syncTo_sizes h _ (Nat.le_refl _), (fun p hp => by cases hp), h.brk⟩
theorem Dk.Ok.stop {d : Dk} (h : d.Ok) {n : Int} (hn : n ≤ 9223372036854775807) : (d.stop n).Ok :=
  ⟨h.len, h.sz, h.pd, fun k hk => by unfold Dk.stop at hk; simp only at hk; split at hk <;> cases hk; omega⟩
theorem Dk.Ok.crash {d : Dk} (h : d.Ok) (keep : List Int) (torn cut : Int) : (d.crash keep torn cut).Ok :=
  ⟨by show (crashTo _ _ _ _ _ _).length ≤ _; rw [crashTo_length]; exact h.len, crashTo_sizes h keep torn cut _ (Nat.le_refl _), (fun p hp => by cases hp), (fun k hk => by cases hk)⟩
theorem Dk.get_length (d : Dk) (i : Int) : (d.get i).2.sure.length = d.sure.length ∧ (d.get i).2.pend = d.pend := by
  unfold Dk.get; split
  · exact ⟨rfl, rfl⟩
  · split <;> exact ⟨rfl, rfl⟩
theorem Dk.tick_same (d : Dk) : d.tick.2.sure = d.sure ∧ d.tick.2.pend = d.pend ∧ d.tick.2.reads = d.reads ∧ d.tick.2.writes = d.writes := by
  unfold Dk.tick; split <;> exact ⟨rfl, rfl, rfl, rfl⟩
theorem Dk.put_sure (d : Dk) (i : Int) (s : ByteArray) : (d.put i s).2.sure = d.sure ∧ (d.put i s).2.pend.length ≤ d.pend.length + 1 := by
  unfold Dk.put; split
  · exact ⟨rfl, Nat.le_succ _⟩
  · split
    · split
      · refine ⟨(Dk.tick_same _).1, ?_⟩
        rw [(Dk.tick_same _).2.1]; simp
      · exact ⟨rfl, Nat.le_succ _⟩
    · exact ⟨rfl, Nat.le_succ _⟩
theorem Dk.sync_length (d : Dk) : d.sync.2.sure.length = d.sure.length ∧ d.sync.2.pend.length ≤ d.pend.length := by
  unfold Dk.sync; split
  · exact ⟨rfl, Nat.le_refl _⟩
  · exact ⟨syncTo_length _ _ _, Nat.zero_le _⟩
theorem Dk.crash_length (d : Dk) (keep : List Int) (torn cut : Int) : (d.crash keep torn cut).sure.length = d.sure.length := crashTo_length _ _ _ _ _ _

end Go.Proofs.YtalljfckjkbieaaDoor
