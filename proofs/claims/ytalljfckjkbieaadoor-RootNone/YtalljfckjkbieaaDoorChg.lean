/-
  The walks of package disk's inner functions that change a disk: countDown, forget, Break, settle.
-/
import Derived.Test.YtalljfckjkbieaaDoorSmall
namespace Go.Proofs.YtalljfckjkbieaaDoor
open Go.RowKit
set_option linter.unusedVariables false
open Go.ChangeMaps (setBlock)

/-- Nothing has turned but block b; no block came. -/
structure OnlyD (b : Nat) (w w' : World) : Prop where
  os : w'.os = w.os
  tape : w'.tape = w.tape
  output : w'.output = w.output
  size : w'.heap.size = w.heap.size
  block : ∀ k, k ≠ b → w'.heap[k]? = w.heap[k]?
theorem OnlyD.refl (b : Nat) (w : World) : OnlyD b w w := ⟨rfl, rfl, rfl, rfl, fun _ _ => rfl⟩
theorem OnlyD.trans {b : Nat} {u v w : World} (h : OnlyD b u v) (k : OnlyD b v w) : OnlyD b u w :=
  ⟨k.os.trans h.os, k.tape.trans h.tape, k.output.trans h.output, k.size.trans h.size, fun i hi => (k.block i hi).trans (h.block i hi)⟩
theorem OnlyD.setCell (b o : Nat) (w : World) (v : Value) : OnlyD b w (w.setCell ⟨b, o, none⟩ v) :=
  ⟨rfl, rfl, rfl, by simp [World.setCell], fun k hk => Below.heap_setCell _ _ _ _ hk⟩
theorem OnlyD.setBlock (b : Nat) (w : World) (o : Obj) : OnlyD b w (setBlock w b o) :=
  ⟨rfl, rfl, rfl, by simp [Go.ChangeMaps.setBlock], fun k hk => setBlock_other w hk o⟩
theorem OnlyD.drew {b : Nat} {u w : World} (h : OnlyD b u w) : OnlyD b u w.drew := ⟨h.os, h.tape, h.output, h.size, h.block⟩
theorem OnlyD.turn {X : Nat → Prop} {b : Nat} {w w' : World} (h : OnlyD b w w') (hX : X b) : Turn X w w' :=
  ⟨h.os, h.tape, h.output, Nat.le_of_eq h.size.symm, fun k _ hx => h.block k (fun e => hx (by rw [e]; exact hX))⟩

section
variable {w w' : World} {b m g : Nat} {pv : Value} {br : Bool} {lf : Int} {d : Dk}
/-- The disk's own block has turned: what is sure and what is pending has not. -/
theorem Mem.upd (h : Mem w b m g pv br lf d) (o : OnlyD b w w') {br' : Bool} {lf' : Int} {d' : Dk} (hs : d'.sure = d.sure) (hp : d'.pend = d.pend)
    (hb : w'.heap[b]? = some (.cells #[.slice (some ⟨g, 0, none⟩) d.sure.length d.sure.length, pv, .map (some m), .bool br', .int .i64 lf', .bool d'.down, .int .i64 d'.reads, .int .i64 d'.writes] 69 (0, 0)))
    (enc : d'.down = false → (d'.brk = none ∧ br' = false) ∨ ∃ k : Nat, d'.brk = some k ∧ br' = true ∧ lf' = k) (ok : d'.Ok) : Mem w' b m g pv br' lf' d' :=
  ⟨by rw [hs]; exact hb, by rw [hs]; exact (o.block g h.bg.symm).trans h.row, by rw [hp]; exact ownsRow_kept' h.pnd (fun k hk => o.block k (h.pk hk).2.1), by rw [hp]; exact h.map.kept (o.block m h.bm.symm), enc, ok, h.bg, h.bm, h.gm, h.pb, h.pg, h.pm⟩

/-- A disk in its blocks, whatever stands in its fields of a Break. -/
def MemD (w : World) (b m g : Nat) (pv : Value) (d : Dk) : Prop := ∃ br lf, Mem w b m g pv br lf d

theorem Mem.set6 (h : Mem w b m g pv br lf d) (x : Int) : Mem (w.setCell ⟨b, 6, none⟩ (.int .i64 x)) b m g pv br lf { d with reads := x } :=
  h.upd (OnlyD.setCell b 6 w _) rfl rfl (by simp [World.setCell, Array.getElem?_modify, h.blk]) h.enc ⟨h.ok.len, h.ok.sz, h.ok.pd, h.ok.brk⟩
theorem Mem.set7 (h : Mem w b m g pv br lf d) (x : Int) : Mem (w.setCell ⟨b, 7, none⟩ (.int .i64 x)) b m g pv br lf { d with writes := x } :=
  h.upd (OnlyD.setCell b 7 w _) rfl rfl (by simp [World.setCell, Array.getElem?_modify, h.blk]) h.enc ⟨h.ok.len, h.ok.sz, h.ok.pd, h.ok.brk⟩

set_option maxHeartbeats 400000 in
theorem countDown_m (h : Mem w b m g pv br lf d) (hd : d.down = false) : Calls Tryd.prog 64 #[ptr b] w fun e w' => e = .returned (.tuple #[]) ∧ OnlyD b w w' ∧ MemD w' b m g pv d.tick.2 := by
  have H : Hid (Mem w b m g pv br lf d) := h
  have c3 := h.c3; have c4 := h.c4; have c5 := h.c5; have f4 := h.fz 4; have f5 := h.fz 5; have lt := h.bl
  rcases h.enc hd with ⟨e1, rfl⟩ | ⟨k, e1, rfl, rfl⟩
  · have HT : Hid (d.tick.2 = d) := by show d.tick.2 = d; unfold Dk.tick; rw [e1]
    clear h e1 hd
    go_enter Tryd.func64, Tryd.ntmps64
    go_wp2
    go_end0
    exact ⟨rfl, OnlyD.refl _ _, false, lf, by rw [HT.out]; exact H.out⟩
  · cases k with
    | zero =>
      have HT : Hid (d.tick.2 = { d with down := true, brk := none }) := by show d.tick.2 = _; unfold Dk.tick; rw [e1]
      clear h e1 hd
      go_enter Tryd.func64, Tryd.ntmps64
      go_wp2
      go_end0
      refine ⟨rfl, OnlyD.setCell b 5 w _, true, 0, ?_⟩
      rw [HT.out]
      exact H.out.upd (OnlyD.setCell b 5 w _) rfl rfl (by simp [World.setCell, Array.getElem?_modify, H.out.blk]) (fun h => by cases h) ⟨H.out.ok.len, H.out.ok.sz, H.out.ok.pd, (fun k hk => by cases hk)⟩
    | succ k =>
      have HT : Hid (d.tick.2 = { d with brk := some k }) := by show d.tick.2 = _; unfold Dk.tick; rw [e1]
      have HK : Hid (k + 1 ≤ 9223372036854775807) := h.ok.brk _ e1
      have HD : Hid (d.down = false) := hd
      have hk := HK.out
      have gt : (0 : Int) < ((k + 1 : Nat) : Int) := by omega
      clear h e1 hd
      have ew : wrap64 (((k + 1 : Nat) : Int) - 1) = (k : Int) := by unfold wrap64; omega
      go_enter Tryd.func64, Tryd.ntmps64
      go_wp2
      go_end0
      refine ⟨rfl, OnlyD.setCell b 4 w _, true, k, ?_⟩
      rw [HT.out]
      refine H.out.upd (OnlyD.setCell b 4 w _) rfl rfl ?_ (fun h => .inr ⟨k, rfl, rfl, rfl⟩) ⟨H.out.ok.len, H.out.ok.sz, H.out.ok.pd, (fun j hj => by cases hj; omega)⟩
      simp [World.setCell, Array.getElem?_modify, H.out.blk]

def BrkD (w : World) (b m g : Nat) (pv : Value) (d : Dk) (n : Int) : Prop := ∃ lf, Mem w b m g pv (decide (0 ≤ n)) lf (d.stop n)

set_option maxHeartbeats 400000 in
theorem break_m (h : Mem w b m g pv br lf d) (n : Int) (hn : n ≤ 9223372036854775807) : Calls Tryd.prog 20 #[ptr b, .int .i64 n] w fun e w' => e = .returned (.tuple #[]) ∧ OnlyD b w w' ∧ BrkD w' b m g pv d n := by
  have H : Hid (Mem w b m g pv br lf d) := h
  have c3 := h.c3; have c4 := h.c4; have f4 := h.fz 4; have f3 := h.fz 3; have lt := h.bl
  have O : Hid ((d.stop n).Ok) := h.ok.stop hn
  clear h
  by_cases h0 : 0 ≤ n
  · have HT : Hid (d.stop n = { d with brk := some n.toNat }) := by show d.stop n = _; unfold Dk.stop; rw [if_neg (by omega)]
    go_enter Tryd.func20, Tryd.ntmps20
    go_wp2
    go_end0
    refine ⟨rfl, (OnlyD.setCell b 3 w _).trans (OnlyD.setCell b 4 _ _), n, ?_⟩
    refine H.out.upd ((OnlyD.setCell b 3 w _).trans (OnlyD.setCell b 4 _ _)) (by rw [HT.out]) (by rw [HT.out]) ?_ ?_ O.out
    · rw [HT.out]; simp [World.setCell, Array.getElem?_modify, H.out.blk, h0]
    · rw [HT.out]; exact fun _ => .inr ⟨n.toNat, rfl, by simp [h0], by omega⟩
  · have h1 : n < 0 := by omega
    have HT : Hid (d.stop n = { d with brk := none }) := by show d.stop n = _; unfold Dk.stop; rw [if_pos h1]
    go_enter Tryd.func20, Tryd.ntmps20
    go_wp2
    go_end0
    refine ⟨rfl, (OnlyD.setCell b 3 w _).trans (OnlyD.setCell b 4 _ _), 0, ?_⟩
    refine H.out.upd ((OnlyD.setCell b 3 w _).trans (OnlyD.setCell b 4 _ _)) (by rw [HT.out]) (by rw [HT.out]) ?_ ?_ O.out
    · rw [HT.out]; simp [World.setCell, Array.getElem?_modify, H.out.blk, h1]
    · rw [HT.out]; exact fun _ => .inl ⟨rfl, by simp; omega⟩

set_option maxHeartbeats 400000 in
theorem forget_m (h : Mem w b m g pv br lf d) : Calls Tryd.prog 36 #[ptr b] w fun e w' => e = .returned (.tuple #[]) ∧ Turn (fun k => k = b ∨ k = m) w w' ∧ MemD w' b m g (.slice none 0 0) { d with pend := [] } := by
  have H : Hid (Mem w b m g pv br lf d) := h
  have c1 := h.c1; have c2 := h.c2; have f1 := h.fz 1; have lt := h.bl
  obtain ⟨clock, hcl⟩ := h.map.clear
  have hrun := hcl (w.setCell ⟨b, 1, none⟩ (.slice none 0 0)) 0 (Below.heap_setCell _ _ _ _ h.bm.symm)
  clear h hcl
  go_enter Tryd.func36, Tryd.ntmps36
  go_wp2
  go_end0
  have hm : m < (w.setCell ⟨b, 1, none⟩ (.slice none 0 0)).heap.size := by simpa [World.setCell] using H.out.map.lt
  refine ⟨rfl, (Turn.setCell (X := fun k => k = b ∨ k = m) w (.inl rfl) _).trans (Turn.setBlock (X := fun k => k = b ∨ k = m) _ (.inr rfl) _) (fun k hk => .inl hk), br, lf, ?_⟩
  have h := H.out
  refine ⟨?_, ?_, World.ownsRow_nil _ _ _ _, ?_, h.enc, ⟨h.ok.len, h.ok.sz, (fun p hp => by cases hp), h.ok.brk⟩, h.bg, h.bm, h.gm, (by simp [Value.ownBlock]), (by simp [Value.ownBlock]), (by simp [Value.ownBlock])⟩
  · rw [setBlock_other _ h.bm]; simp [World.setCell, Array.getElem?_modify, h.blk]
  · rw [setBlock_other _ h.gm, Below.heap_setCell _ _ _ _ h.bg.symm]; exact h.row
  · rw [mapOf_nil]; exact MapIs.empty (setBlock_same hm _)

theorem set_strings (l : List ByteArray) (i : Nat) (s : ByteArray) : ((l.map Value.string).toArray.setIfInBounds i (.string s)) = ((l.set i s).map Value.string).toArray := by
  simp [List.map_set]

theorem Mem.setG (h : Mem w b m g pv br lf d) (i : Nat) (hi : i < d.sure.length) (s : ByteArray) (hs : s.size = 256) : Mem (w.setCell ⟨g, i, none⟩ (.string s)) b m g pv br lf { d with sure := d.sure.set i s } := by
  have k : ∀ j, j ≠ g → (w.setCell ⟨g, i, none⟩ (.string s)).heap[j]? = w.heap[j]? := fun j hj => Below.heap_setCell _ _ _ _ hj
  refine ⟨?_, ?_, ownsRow_kept' h.pnd (fun j hj => k j (h.pk hj).2.2.1), h.map.kept (k m h.gm.symm), h.enc, ⟨?_, set_sizes h.ok.sz hs, ?_, h.ok.brk⟩, h.bg, h.bm, h.gm, h.pb, h.pg, h.pm⟩
  · rw [k b h.bg, h.blk]; simp
  · simp only [World.setCell, Array.getElem?_modify, h.row]
    simp
  · simpa using h.ok.len
  · intro p hp; simpa using h.ok.pd p hp

theorem Mem.alloc (h : Mem w b m g pv br lf d) (o : Obj) : Mem (w.alloc o) b m g pv br lf d :=
  h.kept (Below.heap_alloc _ _ _ h.bl) (Below.heap_alloc _ _ _ h.map.lt) (Below.heap_alloc _ _ _ h.gl) (fun k hk => Below.heap_alloc _ _ _ (h.pk hk).1)
theorem Mem.drew (h : Mem w b m g pv br lf d) : Mem w.drew b m g pv br lf d := h.kept rfl rfl rfl (fun _ _ => rfl)

set_option maxHeartbeats 2000000 in
set_option maxRecDepth 100000 in
theorem settle_m (h : Mem w b m g pv br lf d) (i : Nat) (hi : i < d.sure.length) (s : ByteArray) (hs : s.size = 256) (n : Nat) (hn : n ≤ 256) : Calls Tryd.prog 35 #[ptr b, .agg #[.int .i64 i, .string s], .int .i64 n] w fun e w' => e = .returned (.tuple #[]) ∧ Turn (fun k => k = g) w w' ∧ Mem w' b m g pv br lf { d with sure := d.sure.set i (tear n s (sAt d.sure i)) } := by
  have H : Hid (Mem w b m g pv br lf d) := h
  have hz : (sAt d.sure i).size = 256 := sAt_size h.ok.sz hi
  have HT : Hid ((tear n s (sAt d.sure i)).size = 256) := tear_size hn hs hz
  have c0 := h.c0; have lt := h.bl; have cg := h.cellG hi; have fg := h.fzG i; have gl := h.gl
  have hl := h.ok.len
  obtain ⟨t, ht⟩ : ∃ t, t = sAt d.sure i := ⟨_, rfl⟩
  rw [← ht] at cg hz
  have HTE : Hid (t = sAt d.sure i) := ht
  clear h ht
  go_enter Tryd.func35, Tryd.ntmps35
  go_wp2
  go_region
  go_wp2
  go_end0
  refine ⟨rfl, ?_, ?_⟩
  · exact ((Turn.setCell (X := fun k => k = g) w rfl _).trans (Turn.alloc (fun k => k = g) _ _) (fun _ hk => .inl hk)).trans (Turn.drew (fun k => k = g) _) (fun _ hk => .inl hk)
  · have e : s.extract 0 n ++ t.extract n 256 = tear n s (sAt d.sure i) := by rw [← HTE.out]; unfold tear; rw [hz]
    rw [e]
    exact ((H.out.setG i hi _ HT.out).alloc _).drew

end
end Go.Proofs.YtalljfckjkbieaaDoor
