/-
  Things in memory that lie apart: disks, rows of texts, of numbers, of truth values. A call on one of them leaves the others as they were.
-/
import Derived.Test.YtalljfckjkbieaaDoorApi
import Derived.Test.YtalljfckjkbieaaDoorPlain
namespace Go.Proofs.YtalljfckjkbieaaDoor
open Go.RowKit
set_option linter.unusedVariables false

/-- One byte, over and over. -/
def repS (n b : Nat) : ByteArray := ⟨Array.replicate n (UInt8.ofNat b)⟩
theorem repS_size (n b : Nat) : (repS n b).size = n := by simp [repS, ByteArray.size]
theorem repS_append (n m b : Nat) : repS n b ++ repS m b = repS (n + m) b := by
  apply ByteArray.ext
  rw [ByteArray.data_append]
  simp [repS]

/-- A thing in memory, with the blocks that it lies in. -/
abbrev Res := World → (Nat → Prop) → Prop
structure Good (r : Res) : Prop where
  kept : ∀ w w' X, r w X → (∀ k, X k → w'.heap[k]? = w.heap[k]?) → w.heap.size ≤ w'.heap.size → r w' X
  lt : ∀ w X, r w X → ∀ k, X k → k < w.heap.size

def Hp (w : World) : List Res → (Nat → Prop) → Prop
  | [], Y => ∀ k, ¬ Y k
  | r :: l, Y => Good r ∧ ∃ X Z, r w X ∧ Hp w l Z ∧ (∀ k, X k → ¬ Z k) ∧ ∀ k, Y k ↔ X k ∨ Z k

/-- These things lie apart, each in blocks from B on; below B all is as in w0. -/
def Sep (B : Nat) (w0 w : World) (l : List Res) : Prop := B ≤ w.heap.size ∧ Below B w0 w ∧ ∃ Y, Hp w l Y ∧ ∀ k, Y k → B ≤ k

theorem Hp.lt {w : World} : ∀ {l : List Res} {Y : Nat → Prop}, Hp w l Y → ∀ k, Y k → k < w.heap.size
  | [], _, h, k, hk => absurd hk (h k)
  | r :: l, _, ⟨g, X, Z, hr, hl, _, hy⟩, k, hk => by
    rcases (hy k).1 hk with h | h
    · exact g.lt w X hr k h
    · exact hl.lt k h
theorem Hp.kept {w w' : World} (hs : w.heap.size ≤ w'.heap.size) : ∀ {l : List Res} {Y : Nat → Prop}, Hp w l Y → (∀ k, Y k → w'.heap[k]? = w.heap[k]?) → Hp w' l Y
  | [], _, h, _ => h
  | r :: l, _, ⟨g, X, Z, hr, hl, hd, hy⟩, hk => ⟨g, X, Z, g.kept w w' X hr (fun k h => hk k ((hy k).2 (.inl h))) hs, hl.kept hs (fun k h => hk k ((hy k).2 (.inr h))), hd, hy⟩
theorem Hp.swap {w : World} {a b : Res} {l : List Res} {Y : Nat → Prop} (h : Hp w (a :: b :: l) Y) : Hp w (b :: a :: l) Y := by
  obtain ⟨ga, X, Z, ha, ⟨gb, X2, Z2, hb, hl, hd2, hy2⟩, hd, hy⟩ := h
  refine ⟨gb, X2, fun k => X k ∨ Z2 k, hb, ⟨ga, X, Z2, ha, hl, fun k hk h2 => hd k hk ((hy2 k).2 (.inr h2)), fun k => Iff.rfl⟩, fun k hk h2 => ?_, fun k => ?_⟩
  · rcases h2 with h2 | h2
    · exact hd k h2 ((hy2 k).2 (.inl hk))
    · exact hd2 k hk h2
  · rw [hy k, hy2 k]
    constructor
    · rintro (h | h | h)
      · exact .inr (.inl h)
      · exact .inl h
      · exact .inr (.inr h)
    · rintro (h | h | h)
      · exact .inr (.inl h)
      · exact .inl h
      · exact .inr (.inr h)
theorem Hp.under {w : World} {a : Res} {l l' : List Res} {Y : Nat → Prop} (h : Hp w (a :: l) Y) (f : ∀ Z, Hp w l Z → Hp w l' Z) : Hp w (a :: l') Y := by
  obtain ⟨ga, X, Z, ha, hl, hd, hy⟩ := h
  exact ⟨ga, X, Z, ha, f Z hl, hd, hy⟩

section
variable {B : Nat} {w0 w w' : World} {a b c e : Res} {l : List Res}
theorem Sep.map {l l' : List Res} (h : Sep B w0 w l) (f : ∀ Z, Hp w l Z → Hp w l' Z) : Sep B w0 w l' := by
  obtain ⟨hB, hb, Y, hl, hY⟩ := h
  exact ⟨hB, hb, Y, f Y hl, hY⟩
theorem Sep.up1 (h : Sep B w0 w (a :: b :: l)) : Sep B w0 w (b :: a :: l) := h.map fun _ => Hp.swap
theorem Sep.up2 (h : Sep B w0 w (a :: b :: c :: l)) : Sep B w0 w (c :: a :: b :: l) := (h.map fun _ h => Hp.under h fun _ => Hp.swap).up1
theorem Sep.up3 (h : Sep B w0 w (a :: b :: c :: e :: l)) : Sep B w0 w (e :: a :: b :: c :: l) := (h.map fun _ h => Hp.under h fun _ h => Hp.under h fun _ => Hp.swap).up2
theorem Sep.up4 {f : Res} (h : Sep B w0 w (a :: b :: c :: e :: f :: l)) : Sep B w0 w (f :: a :: b :: c :: e :: l) := (h.map fun _ h => Hp.under h fun _ h => Hp.under h fun _ h => Hp.under h fun _ => Hp.swap).up3
theorem Sep.dn2 (h : Sep B w0 w (c :: a :: b :: l)) : Sep B w0 w (a :: b :: c :: l) := h.up1.map fun _ h => Hp.under h fun _ => Hp.swap
theorem Sep.dn3 (h : Sep B w0 w (e :: a :: b :: c :: l)) : Sep B w0 w (a :: b :: c :: e :: l) := h.dn2.map fun _ h => Hp.under h fun _ h => Hp.under h fun _ => Hp.swap
theorem Sep.dn4 {f : Res} (h : Sep B w0 w (f :: a :: b :: c :: e :: l)) : Sep B w0 w (a :: b :: c :: e :: f :: l) := h.dn3.map fun _ h => Hp.under h fun _ h => Hp.under h fun _ h => Hp.under h fun _ => Hp.swap
theorem Sep.size (h : Sep B w0 w l) : B ≤ w.heap.size := h.1
theorem Sep.bel (h : Sep B w0 w l) : Below B w0 w := h.2.1

/-- New blocks alone. -/
theorem Sep.below {l : List Res} (h : Sep B w0 w l) (hb : Below w.heap.size w w') : Sep B w0 w' l := by
  obtain ⟨hB, hb0, Y, hl, hY⟩ := h
  exact ⟨Nat.le_trans hB hb.size, hb0.trans (hb.mono hB), Y, hl.kept hb.size (fun k hk => hb.block k (hl.lt k hk)), hY⟩
theorem Sep.alloc {l : List Res} (h : Sep B w0 w l) (o : Obj) : Sep B w0 (w.alloc o) l := h.below ((Below.refl _ _).alloc (Nat.le_refl _) o)
theorem Sep.drew {l : List Res} (h : Sep B w0 w l) : Sep B w0 w.drew l := h.below (Below.refl _ _).drew
theorem Sep.nil (hB : B ≤ w.heap.size) (hb : Below B w0 w) : Sep B w0 w [] := ⟨hB, hb, fun _ => False, fun _ h => h, fun _ h => h.elim⟩

/-- The first thing has turned, in its own blocks and new ones. -/
theorem Sep.step {a' : Res} (h : Sep B w0 w (a :: l)) (g' : Good a') (f : ∀ X, a w X → ∃ X', a' w' X' ∧ Turn X w w' ∧ ∀ k, X' k → X k ∨ w.heap.size ≤ k) : Sep B w0 w' (a' :: l) := by
  obtain ⟨hB, hb, Y, ⟨ga, X, Z, ha, hl, hd, hy⟩, hY⟩ := h
  obtain ⟨X', ha', ht, hx⟩ := f X ha
  have hlt := hl.lt
  refine ⟨Nat.le_trans hB ht.size, ht.below hb hB (fun k hk => hY k ((hy k).2 (.inl hk))), fun k => X' k ∨ Z k, ⟨g', X', Z, ha', hl.kept ht.size (fun k hk => ht.block k (hlt k hk) (fun hx => hd k hx hk)), fun k hk hz => ?_, fun k => Iff.rfl⟩, fun k hk => ?_⟩
  · rcases hx k hk with h1 | h1
    · exact hd k h1 hz
    · have := hlt k hz; omega
  · rcases hk with h1 | h1
    · rcases hx k h1 with h2 | h2
      · exact hY k ((hy k).2 (.inl h2))
      · omega
    · exact hY k ((hy k).2 (.inr h1))
/-- A new thing in new blocks. -/
theorem Sep.add {a' : Res} (h : Sep B w0 w l) (hb : Below w.heap.size w w') (g' : Good a') {X : Nat → Prop} (ha : a' w' X) (hX : ∀ k, X k → w.heap.size ≤ k) : Sep B w0 w' (a' :: l) := by
  have h' := h.below hb
  obtain ⟨hB, _, Y, hl, hY⟩ := h
  have hlt := hl.lt
  obtain ⟨hB', hb', _⟩ := h'
  refine ⟨hB', hb', fun k => X k ∨ Y k, ⟨g', X, Y, ha, hl.kept hb.size (fun k hk => hb.block k (hlt k hk)), fun k hk hz => ?_, fun k => Iff.rfl⟩, fun k hk => ?_⟩
  · have := hX k hk; have := hlt k hz; omega
  · rcases hk with h1 | h1
    · have := hX k h1; omega
    · exact hY k h1
end

/-- A disk. -/
def Disk (b : Nat) (d : Dk) : Res := fun w X => Mine X w b d
theorem good_disk (b : Nat) (d : Dk) : Good (Disk b d) :=
  ⟨fun w w' X h hk hs => by
    obtain ⟨⟨m, g, pv, br, lf, hM, xb, xm, xg, xp⟩, hl⟩ := h
    exact ⟨⟨m, g, pv, br, lf, hM.kept (hk _ xb) (hk _ xm) (hk _ xg) (fun k h => hk k (xp k h)), xb, xm, xg, xp⟩, fun k hk => Nat.lt_of_lt_of_le (hl k hk) hs⟩, fun w X h => h.2⟩

section
variable {B : Nat} {w0 w w' : World} {b : Nat} {d d' : Dk} {l : List Res}
theorem Sep.mine (h : Sep B w0 w (Disk b d :: l)) : ∃ X, Mine X w b d := by
  obtain ⟨_, _, Y, ⟨_, X, _, ha, _⟩, _⟩ := h; exact ⟨X, ha⟩
theorem Sep.ok (h : Sep B w0 w (Disk b d :: l)) : d.Ok := by
  obtain ⟨X, ⟨m, g, pv, br, lf, hM, _⟩, _⟩ := h.mine; exact hM.ok
theorem Calls.withSep {P : Program} {f : Nat} {args : Array Value} {Q : Ending → World → Prop} {v : Value} (h : Sep B w0 w (Disk b d :: l)) (hQ : ∀ X, Mine X w b d → Calls P f args w (fun e w' => e = .returned v ∧ Goes X w w' b d')) : Calls P f args w fun e w' => e = .returned v ∧ Sep B w0 w' (Disk b d' :: l) := by
  obtain ⟨hB, hb, Y, ⟨ga, X, Z, ha, hl, hd, hy⟩, hY⟩ := h
  refine (hQ X ha).mono ?_
  rintro e w' ⟨he, X', hm, ht, hx⟩
  refine ⟨he, Nat.le_trans hB ht.size, ht.below hb hB (fun k hk => hY k ((hy k).2 (.inl hk))), fun k => X' k ∨ Z k, ⟨good_disk b d', X', Z, hm, hl.kept ht.size (fun k hk => ht.block k (hl.lt k hk) (fun hx => hd k hx hk)), fun k hk hz => ?_, fun k => Iff.rfl⟩, fun k hk => ?_⟩
  · rcases hx k hk with h1 | h1
    · exact hd k h1 hz
    · have := hl.lt k hz; omega
  · rcases hk with h1 | h1
    · rcases hx k h1 with h2 | h2
      · exact hY k ((hy k).2 (.inl h2))
      · omega
    · exact hY k ((hy k).2 (.inr h1))

theorem new_s (n : Int) (h : Sep B w0 w l) : Calls Tryd.prog 16 #[.int .i64 n] w fun e w' => ∃ b, e = .returned (ptr b) ∧ Sep B w0 w' (Disk b (Dk.new n) :: l) := by
  refine (new_m n w).mono ?_
  rintro e w' ⟨b, he, hbl, hm⟩
  exact ⟨b, he, h.add hbl (good_disk _ _) hm (fun k hk => hk.1)⟩
theorem down_s (h : Sep B w0 w (Disk b d :: l)) : Calls Tryd.prog 61 #[ptr b] w fun e w' => e = .returned (.bool d.down) ∧ w = w' := by obtain ⟨X, hm⟩ := h.mine; exact down_c hm
theorem sectors_s (h : Sep B w0 w (Disk b d :: l)) : Calls Tryd.prog 67 #[ptr b] w fun e w' => e = .returned (.int .i64 d.sure.length) ∧ w = w' := by obtain ⟨X, hm⟩ := h.mine; exact sectors_c hm
theorem read_s (h : Sep B w0 w (Disk b d :: l)) (i : Int) : Calls Tryd.prog 52 #[ptr b, .int .i64 i] w fun e w' => e = .returned (.tuple #[.string (d.get i).1.1, .int .i64 (d.get i).1.2]) ∧ Sep B w0 w' (Disk b (d.get i).2 :: l) := Calls.withSep (Q := fun _ _ => True) h fun _ hm => read_c hm i
theorem write_s (h : Sep B w0 w (Disk b d :: l)) (i : Int) (s : ByteArray) (hs : s.size ≤ maxLen) (hp : d.pend.length < 100000) : Calls Tryd.prog 50 #[ptr b, .int .i64 i, .string s] w fun e w' => e = .returned (.int .i64 (d.put i s).1) ∧ Sep B w0 w' (Disk b (d.put i s).2 :: l) := Calls.withSep (Q := fun _ _ => True) h fun _ hm => write_c hm i s hs hp
theorem sync_s (h : Sep B w0 w (Disk b d :: l)) (hp : d.pend.length < 100000) : Calls Tryd.prog 51 #[ptr b] w fun e w' => e = .returned (.int .i64 d.sync.1) ∧ Sep B w0 w' (Disk b d.sync.2 :: l) := Calls.withSep (Q := fun _ _ => True) h fun _ hm => sync_c hm hp
theorem break_s (h : Sep B w0 w (Disk b d :: l)) (n : Int) (hn : n ≤ 9223372036854775807) : Calls Tryd.prog 20 #[ptr b, .int .i64 n] w fun e w' => e = .returned (.tuple #[]) ∧ Sep B w0 w' (Disk b (d.stop n) :: l) := Calls.withSep (Q := fun _ _ => True) h fun _ hm => break_c hm n hn
theorem crash_s (h : Sep B w0 w (Disk b d :: l)) (kv : Value) (keep : List Int) (hkv : IntRow w kv keep) (torn cut : Int) (hp : d.pend.length < 100000) (hk : keep.length < 100000) : Calls Tryd.prog 21 #[ptr b, kv, .int .i64 torn, .int .i64 cut] w fun e w' => e = .returned (.tuple #[]) ∧ Sep B w0 w' (Disk b (d.crash keep torn cut) :: l) := Calls.withSep (Q := fun _ _ => True) h fun _ hm => crash_c hm kv keep hkv torn cut hp hk
end

/-- A row of values of one cell each, in a block of its own, or none. -/
def RowR (e : TypeId) (v : Value) (cs : List Value) : Res := fun w X => w.ownsRow 0 e 1 v cs.length cs ∧ ∀ k, X k ↔ v.ownBlock = some k
theorem good_row (e : TypeId) (v : Value) (cs : List Value) : Good (RowR e v cs) :=
  ⟨fun w w' X h hk _ => ⟨ownsRow_kept' h.1 (fun k hk' => hk k ((h.2 k).2 hk')), h.2⟩, fun w X h k hk => (h.1.lt k ((h.2 k).1 hk)).2⟩
section
variable {B : Nat} {w0 w w' : World} {l : List Res} {e : TypeId} {v : Value} {cs : List Value}
theorem Sep.addNil (h : Sep B w0 w l) (e : TypeId) : Sep B w0 w (RowR e (.slice none 0 0) [] :: l) :=
  h.add (Below.refl _ _) (good_row _ _ _) (X := fun _ => False) ⟨by simpa using World.ownsRow_nil w 0 e 1, fun k => by simp [Value.ownBlock]⟩ (fun _ h => h.elim)
theorem Sep.row (h : Sep B w0 w (RowR e v cs :: l)) : w.ownsRow 0 e 1 v cs.length cs := by
  obtain ⟨_, _, Y, ⟨_, X, _, ha, _⟩, _⟩ := h; exact ha.1
/-- What can be read of it. -/
theorem Sep.cell (h : Sep B w0 w (RowR e v cs :: l)) {j : Nat} (hj : j < cs.length) : ∃ r c, v = .slice (some ⟨r, 0, none⟩) cs.length c ∧ cs.length ≤ c ∧ r < w.heap.size ∧ w.cell? ⟨r, j, none⟩ = cs[j]? ∧ w.frozen? ⟨r, j, none⟩ = false := by
  have hr := h.row
  rcases hr.2 with ⟨_, h2⟩ | ⟨g, cap, cur, h1, _, hg, hc, _⟩
  · omega
  · rw [h1] at hr
    exact ⟨g, cap, h1, hc, (Array.getElem?_eq_some_iff.1 hg).1, hr.cellAt j (by omega), hr.frozenAt j⟩
theorem Sep.shape (h : Sep B w0 w (RowR e v cs :: l)) : ∃ ao c, v = .slice ao cs.length c := by
  rcases h.row.2 with ⟨h1, h2⟩ | ⟨g, cap, cur, h1, _⟩
  · exact ⟨none, 0, by rw [h1, h2]⟩
  · exact ⟨_, _, h1⟩
/-- A store into it. -/
theorem Sep.store {r c : Nat} (h : Sep B w0 w (RowR e (.slice (some ⟨r, 0, none⟩) cs.length c) cs :: l)) (j : Nat) (hj : j < cs.length) (u : Value) : Sep B w0 (w.setCell ⟨r, j, none⟩ u) (RowR e (.slice (some ⟨r, 0, none⟩) cs.length c) (cs.set j u) :: l) := by
  refine h.step (good_row _ _ _) fun X hX => ⟨X, ⟨?_, hX.2⟩, Turn.setCell (X := X) w ((hX.2 r).2 rfl) u, fun k hk => .inl hk⟩
  have := hX.1.stored j u
  rw [List.length_set]
  exact this.1
end

theorem infoStr : (Tryd.prog.info? 9).map (fun i => (i.zero, i.size, i.bytes)) = some (some (.string ByteArray.empty), 1, 16) := by kernel_rfl
theorem infoInt : (Tryd.prog.info? 3).map (fun i => (i.zero, i.size, i.bytes)) = some (some (.int .i64 0), 1, 8) := by kernel_rfl

section
variable {ops : Array Oper} {rest : List Oper} {o : Oper} {a : Act} {Q : Exit → Act → World → Prop} {B : Nat} {w0 w : World} {l : List Res}
theorem Sep.appended {e : TypeId} {v v' : Value} {cs : List Value} {u : Value} {w' : World} (h : Sep B w0 w (RowR e v cs :: l)) (h2 : w'.ownsRow 0 e 1 v' (cs.length + 1) (cs ++ [u])) (hg : w.grownBy w' v.ownBlock) (hloc : v'.ownBlock = v.ownBlock ∨ v'.ownBlock = some w.heap.size) : Sep B w0 w' (RowR e v' (cs ++ [u]) :: l) := by
  refine h.step (good_row _ _ _) fun X hX => ⟨fun k => v'.ownBlock = some k, ⟨by rw [List.length_append]; exact h2, fun k => Iff.rfl⟩, Turn.grown hg (fun k hk => (hX.2 k).2 hk), fun k hk => ?_⟩
  rcases hloc with e1 | e1
  · exact .inl ((hX.2 k).2 (e1 ▸ hk))
  · rw [e1] at hk
    exact .inr (Nat.le_of_eq (Option.some.inj hk))
theorem slice_of {e : TypeId} {v : Value} {n : Nat} {cs : List Value} (h : w.ownsRow 0 e 1 v n cs) : ∃ ao c, v = .slice ao n c := by
  rcases h.2 with ⟨h1, h2⟩ | ⟨g, cap, cur, h1, _⟩
  · exact ⟨none, 0, by rw [h1, h2]⟩
  · exact ⟨_, _, h1⟩

theorem app_str (hgd : o.guard = .none) (s x : Operand) (ho : o.op = .call { callee := .builtin .append, args := #[s, x], argTypes := #[55, 55] }) (v : Value) (cs : List Value) (hs : a.eval s = v) (h : Sep B w0 w (RowR 9 v cs :: l))
    (r c : Nat) (t : ByteArray) (hx : a.eval x = .slice (some ⟨r, 0, none⟩) 1 c) (c0 : w.cell? ⟨r, 0, none⟩ = some (.string t)) (hl : cs.length < 100000)
    (hK : ∀ ao n' c' w', Sep B w0 w' (RowR 9 (.slice ao n' c') (cs ++ [.string t]) :: l) → wpList Tryd.prog ops Q rest (a.put o.dst (.slice ao n' c')) w') : wpList Tryd.prog ops Q (o :: rest) a w := by
  obtain ⟨i0, hi, hz0, hz1, hz2⟩ := info_parts infoStr
  refine wpList_append_own_at w hgd s x 55 ho 0 9 i0 _ 1 16 Tryd.underlying55 hi hz0 hz1 hz2 rfl (by decide) v cs.length cs hs h.row ⟨r, 0, none⟩ 1 c [.string t] hx rfl (fun j u hj => ?_) (fun u hu => by simp at hu; subst hu; rfl) (by unfold maxLen; omega) (by omega) (Nat.zero_le _) ?_
  · match j, hj with
    | 0, hj => simp at hj; subst hj; exact c0
    | j + 1, hj => simp at hj
  · intro v' w' h2 h3 _ h5
    obtain ⟨ao, c', rfl⟩ := slice_of h2
    exact hK _ _ _ _ (h.appended h2 h3 h5)

theorem app_int (hgd : o.guard = .none) (s x : Operand) (ho : o.op = .call { callee := .builtin .append, args := #[s, x], argTypes := #[45, 45] }) (v : Value) (cs : List Value) (hs : a.eval s = v) (h : Sep B w0 w (RowR 3 v cs :: l))
    (r c : Nat) (t : Int) (hx : a.eval x = .slice (some ⟨r, 0, none⟩) 1 c) (c0 : w.cell? ⟨r, 0, none⟩ = some (.int .i64 t)) (hl : cs.length < 100000)
    (hK : ∀ ao n' c' w', Sep B w0 w' (RowR 3 (.slice ao n' c') (cs ++ [.int .i64 t]) :: l) → wpList Tryd.prog ops Q rest (a.put o.dst (.slice ao n' c')) w') : wpList Tryd.prog ops Q (o :: rest) a w := by
  obtain ⟨i0, hi, hz0, hz1, hz2⟩ := info_parts infoInt
  refine wpList_append_own_at w hgd s x 45 ho 0 3 i0 _ 1 8 Tryd.underlying45 hi hz0 hz1 hz2 rfl (by decide) v cs.length cs hs h.row ⟨r, 0, none⟩ 1 c [.int .i64 t] hx rfl (fun j u hj => ?_) (fun u hu => by simp at hu; subst hu; rfl) (by unfold maxLen; omega) (by omega) (Nat.zero_le _) ?_
  · match j, hj with
    | 0, hj => simp at hj; subst hj; exact c0
    | j + 1, hj => simp at hj
  · intro v' w' h2 h3 _ h5
    obtain ⟨ao, c', rfl⟩ := slice_of h2
    exact hK _ _ _ _ (h.appended h2 h3 h5)
end

end Go.Proofs.YtalljfckjkbieaaDoor
