/-
  The walk of package treediff's Lists.
-/
import Derived.Test.YtljmkajpjjdnhaaGreatDoorTdRun
import Derived.Test.YtljmkajpjjdnhaaGreatDoorTdRight
import Derived.Test.YtljmkajpjjdnhaaGreatDoorOrd
namespace Go.Proofs.YtljmkajpjjdnhaaGreatDoor.N
open Go.Shelf Go.RowKit Go.Lib Go.Sort
set_option linter.unusedVariables false
set_option linter.unusedSectionVars false
variable [DecidableEq Dl] [Inhabited Dl] [Inhabited Th]

theorem ownBase {B : Nat} {w0 w : World} {l : List Res} {e : TypeId} {k n : Nat} {v : Value} {cs : List Value} (h : Sep B w0 w (RowK e k v n cs :: l)) : w.ownsRow B e k v n cs := by
  obtain ⟨_, _, Y, ⟨_, X, Z, ha, _, _, hy⟩, hY⟩ := h
  refine ⟨ha.1.1, ?_⟩
  rcases ha.1.2 with h1 | ⟨g, cap, cur, h1, _, h3⟩
  · exact .inl h1
  · refine .inr ⟨g, cap, cur, h1, ?_, h3⟩
    exact hY g ((hy g).2 (.inl ((ha.2 g).2 (by rw [h1]; rfl))))

/-- What Lists answers. -/
def liL (a b : List En) : List Dl := if (rgB a && rgB b) = true then mgD a b else []
/-- A row of deltas that the call has made. -/
def OwnD (base : Nat) (w : World) (v : Value) (s : List Dl) : Prop := w.ownsRow base 37 5 v s.length (flatK encD 5 s.toArray).toList
def GvL (w : World) (s : List Dl) (e : Ending) (w' : World) : Prop := ∃ ao c, e = .returned (.slice ao s.length c) ∧ OwnD w.heap.size w' (.slice ao s.length c) s ∧ Below w.heap.size w w'
theorem OwnD.nil (base : Nat) (w : World) : OwnD base w (.slice none 0 0) [] := by unfold OwnD; simpa [flatK] using World.ownsRow_nil w base 37 5
abbrev zT : Th := ⟨e0, e0, 0, 0, e0⟩
theorem with_z {B : Nat} {w0 w : World} {l : List Res} (ao : Option Addr) (cap : Nat) (es : List En) (hl : es.length ≤ 10000) (hB : w0.heap.size ≤ B) (hR : Row encP 2 w0 (.slice ao es.length cap) es) (h : Sep B w0 w l) :
    Calls Tryz.prog 16 #[.slice none 0 0, eV ⟨#[]⟩ ⟨#[]⟩, ndV (.slice ao es.length cap)] w fun e w' => ∃ ao' c', e = .returned (.slice ao' es.length c') ∧ Sep B w0 w' (StE (.slice ao' es.length c') es :: l) := by
  have h1 : Sep B w0 w (StR (.slice none ([] : List Th).length 0) [] :: l) := by unfold StR; simpa [flatK] using Sep.nilK (e := 51) (k := 5) h
  have := with_c ao none cap 0 es [] hl (by simp) zT hB hR h1
  rw [List.nil_append, thL_all, List.length_reverse, List.length_map] at this
  exact this

abbrev wkZ : Obj := .cells #[.pointer none, .map none, .slice none 0 0, .slice none 0 0, .int .i64 0, .slice none 0 0] 55 (0, 0)
/-- A walk that was just made. -/
def PtR (x : Value) : Res := fun w X => ∃ q, x = pt q ∧ Blk q wkZ w X
theorem good_pt (x : Value) : Good (PtR x) :=
  ⟨fun w w' X ⟨q, e, h⟩ hk hs => ⟨q, e, (good_blk q wkZ).kept w w' X h hk hs⟩, fun w X ⟨q, e, h⟩ => (good_blk q wkZ).lt w X h⟩
/-- What lies in memory while both stacks are made. -/
def LB (W0 : World) (q5 q6 : Nat) (va vb : Value) (a b : List En) (f2 f5 f7 : Bool) (x24 x27 x7 : Value) (w : World) : Prop :=
  Sep W0.heap.size W0 w (Blk q6 (ndO vb) :: Blk q5 (ndO va) :: ((if f2 = true then [StE x24 a] else []) ++ ((if f5 = true then [StE x27 b] else []) ++ (if f7 = true then [PtR x7] else []))))
section
variable {W0 w w' : World} {q5 q6 q7 : Nat} {va vb x24 x27 x7 : Value} {a b : List En} {f2 f5 f7 : Bool}
theorem LB.sep (h : LB W0 q5 q6 va vb a b f2 f5 f7 x24 x27 x7 w) : Sep W0.heap.size W0 w (Blk q6 (ndO vb) :: Blk q5 (ndO va) :: ((if f2 = true then [StE x24 a] else []) ++ ((if f5 = true then [StE x27 b] else []) ++ (if f7 = true then [PtR x7] else [])))) := h
theorem LB.two {v : Value} (hu : f2 = false) (h : Sep W0.heap.size W0 w (StE v a :: Blk q6 (ndO vb) :: Blk q5 (ndO va) :: ((if f2 = true then [StE x24 a] else []) ++ ((if f5 = true then [StE x27 b] else []) ++ (if f7 = true then [PtR x7] else []))))) : LB W0 q5 q6 va vb a b true f5 f7 v x27 x7 w := by
  subst hu
  exact h.dn2
theorem LB.five {v : Value} (hu : f5 = false) (h : Sep W0.heap.size W0 w (StE v b :: Blk q6 (ndO vb) :: Blk q5 (ndO va) :: ((if f2 = true then [StE x24 a] else []) ++ ((if f5 = true then [StE x27 b] else []) ++ (if f7 = true then [PtR x7] else []))))) : LB W0 q5 q6 va vb a b f2 true f7 x24 v x7 w := by
  subst hu
  cases f2
  · exact h.dn2
  · exact Sep.dn3 h
theorem LB.seven (hu : f7 = false) (h : LB W0 q5 q6 va vb a b f2 f5 f7 x24 x27 x7 w) : LB W0 q5 q6 va vb a b f2 f5 true x24 x27 (pt w.heap.size) (w.alloc wkZ) := by
  subst hu
  have h1 : Sep W0.heap.size W0 (w.alloc wkZ) (PtR (pt w.heap.size) :: Blk q6 (ndO vb) :: Blk q5 (ndO va) :: ((if f2 = true then [StE x24 a] else []) ++ ((if f5 = true then [StE x27 b] else []) ++ []))) :=
    (LB.sep h).add ((Below.refl _ _).alloc (Nat.le_refl _) _) (good_pt _) (X := fun k => k = w.heap.size) ⟨w.heap.size, rfl, World.alloc_heap_new w _, fun _ => Iff.rfl⟩ (fun k hk => Nat.le_of_eq hk.symm)
  cases f2 <;> cases f5
  · exact h1.dn2
  · exact Sep.dn3 h1
  · exact Sep.dn3 h1
  · exact Sep.dn4 h1
theorem LB.end (h2 : f2 = true) (h5 : f5 = true) (h7 : f7 = true) (h : LB W0 q5 q6 va vb a b f2 f5 f7 x24 x27 (pt q7) w) : Sep W0.heap.size W0 w (Blk q7 wkZ :: StE x24 a :: StE x27 b :: Blk q6 (ndO vb) :: Blk q5 (ndO va) :: []) := by
  subst h2 h5 h7
  have h1 : Sep W0.heap.size W0 w (Blk q6 (ndO vb) :: Blk q5 (ndO va) :: StE x24 a :: StE x27 b :: PtR (pt q7) :: []) := h
  have h2 := Sep.pk [_, _, _, _] h1
  have h3 : Sep W0.heap.size W0 w (Blk q7 wkZ :: Blk q6 (ndO vb) :: Blk q5 (ndO va) :: StE x24 a :: StE x27 b :: []) := by
    obtain ⟨hB, hb, Y, ⟨_, X, Zz, ⟨q, e, ha⟩, hl, hd, hy⟩, hY⟩ := h2
    cases e
    exact ⟨hB, hb, Y, ⟨good_blk _ _, X, Zz, ha, hl, hd, hy⟩, hY⟩
  exact h3.perm (List.Perm.cons _ (List.perm_append_comm (l₁ := [_, _]) (l₂ := [_, _])))
end
theorem n4 {w : World} {q : Nat} {v : Value} (h : Cl w q #[.bool true, v, .slice none 0 0, .slice none 0 0] 43) : w.cell? ⟨q, 0, none⟩ = some (.bool true) ∧ w.cell? ⟨q, 1, none⟩ = some v ∧ w.cell? ⟨q, 2, none⟩ = some (.slice none 0 0) ∧ w.cell? ⟨q, 3, none⟩ = some (.slice none 0 0) := ⟨h.cell 0, h.cell 1, h.cell 2, h.cell 3⟩
theorem six {w : World} {q : Nat} {t : TypeId} {a0 a1 a2 a3 a4 a5 : Value} (h : Cl w q #[a0, a1, a2, a3, a4, a5] t) : w.cell? ⟨q, 0, none⟩ = some a0 ∧ w.cell? ⟨q, 1, none⟩ = some a1 ∧ w.cell? ⟨q, 2, none⟩ = some a2 ∧ w.cell? ⟨q, 3, none⟩ = some a3 ∧ w.cell? ⟨q, 4, none⟩ = some a4 ∧ w.cell? ⟨q, 5, none⟩ = some a5 ∧ w.frozen? ⟨q, 0, none⟩ = false ∧ w.frozen? ⟨q, 1, none⟩ = false ∧ w.frozen? ⟨q, 2, none⟩ = false ∧ w.frozen? ⟨q, 3, none⟩ = false ∧ w.frozen? ⟨q, 4, none⟩ = false ∧ w.frozen? ⟨q, 5, none⟩ = false :=
  by
  have hb : w.heap[q]? = some (.cells #[a0, a1, a2, a3, a4, a5] t (0, 0)) := h
  refine ⟨?_, ?_, ?_, ?_, ?_, ?_, ?_, ?_, ?_, ?_, ?_, ?_⟩ <;> simp [World.cell?, World.frozen?, hb]
theorem wkNew {B : Nat} {w0 w : World} {q : Nat} {aa ab : Option Addr} {ca cb : Nat} {a b : List En} {l : List Res} (h : Sep B w0 w (Blk q (wkO (.slice aa a.length ca) (.slice ab b.length cb) (.slice none 0 0)) :: StE (.slice aa a.length ca) a :: StE (.slice ab b.length cb) b :: l)) : Sep B w0 w (WkL q a b [] [] aa ab none ca cb 0) := by
  have h1 : Sep B w0 w (DeR (.slice none 0 0) [] :: Blk q (wkO (.slice aa a.length ca) (.slice ab b.length cb) (.slice none 0 0)) :: StE (.slice aa a.length ca) a :: StE (.slice ab b.length cb) b :: l) := by unfold DeR; simpa [flatK] using Sep.nilK (e := 37) (k := 5) h
  exact Sep.front (WkL q a b [] [] aa ab none ca cb 0) (Sep.dn3 h1)

/-- What holds between the operations of the region. -/
def JLi (W0 : World) (q5 q6 : Nat) (va vb : Value) (es fs : List En) (y0 y1 y2 y3 y4 y8 y9 y10 y11 y12 y13 y14 y15 y16 y17 y18 y19 y20 y21 y29 y30 y31 y32 y33 : Value) (f : List Bool) (a : Act) (w : World) : Prop :=
  ∃ f0 f1 f2 f3 f4 f5 f6 f7 f8 : Bool, f = [f0, f1, f2, f3, f4, f5, f6, f7, f8] ∧ f8 = false ∧ ∃ x7 x22 x23 x24 x25 x26 x27 x28 : Value,
    a = { tmps := #[y0, y1, y2, y3, y4, .pointer (some ⟨q5, 0, none⟩), .pointer (some ⟨q6, 0, none⟩), x7, y8, y9, y10, y11, y12, y13, y14, y15, y16, y17, y18, y19, y20, y21, x22, x23, x24, x25, x26, x27, x28, y29, y30, y31, y32, y33], defers := [] } ∧ LB W0 q5 q6 va vb es fs f2 f5 f7 x24 x27 x7 w ∧
    Hid (f0 = true → x22 = .agg #[.string ⟨#[]⟩, .string ⟨#[]⟩, .int .i64 0, .int .i64 0, .string ⟨#[]⟩]) ∧
    Hid (f1 = true → x23 = .agg #[.bool true, va, .slice none 0 0, .slice none 0 0]) ∧
    Hid (f2 = true → ∃ ao c, x24 = .slice ao es.length c) ∧
    Hid (f3 = true → x25 = .agg #[.string ⟨#[]⟩, .string ⟨#[]⟩, .int .i64 0, .int .i64 0, .string ⟨#[]⟩]) ∧
    Hid (f4 = true → x26 = .agg #[.bool true, vb, .slice none 0 0, .slice none 0 0]) ∧
    Hid (f5 = true → ∃ ao c, x27 = .slice ao fs.length c) ∧
    Hid (f6 = true → f2 = true ∧ f5 = true ∧ x28 = .agg #[.pointer none, .map none, x24, x27, .int .i64 0, .slice none 0 0]) ∧
    Hid (f7 = true → ∃ q, x7 = .pointer (some ⟨q, 0, none⟩))
theorem JLi.elim {W0 : World} {q5 q6 : Nat} {va vb : Value} {es fs : List En} {y0 y1 y2 y3 y4 y8 y9 y10 y11 y12 y13 y14 y15 y16 y17 y18 y19 y20 y21 y29 y30 y31 y32 y33 : Value} {f : List Bool} {a : Act} {w : World} {C : List Bool → Act → World → Prop} (h : JLi W0 q5 q6 va vb es fs y0 y1 y2 y3 y4 y8 y9 y10 y11 y12 y13 y14 y15 y16 y17 y18 y19 y20 y21 y29 y30 y31 y32 y33 f a w)
    (k : ∀ (f0 f1 f2 f3 f4 f5 f6 f7 f8 : Bool) (x7 x22 x23 x24 x25 x26 x27 x28 : Value), f8 = false → LB W0 q5 q6 va vb es fs f2 f5 f7 x24 x27 x7 w →
      Hid (f0 = true → x22 = .agg #[.string ⟨#[]⟩, .string ⟨#[]⟩, .int .i64 0, .int .i64 0, .string ⟨#[]⟩]) →
      Hid (f1 = true → x23 = .agg #[.bool true, va, .slice none 0 0, .slice none 0 0]) →
      Hid (f2 = true → ∃ ao c, x24 = .slice ao es.length c) →
      Hid (f3 = true → x25 = .agg #[.string ⟨#[]⟩, .string ⟨#[]⟩, .int .i64 0, .int .i64 0, .string ⟨#[]⟩]) →
      Hid (f4 = true → x26 = .agg #[.bool true, vb, .slice none 0 0, .slice none 0 0]) →
      Hid (f5 = true → ∃ ao c, x27 = .slice ao fs.length c) →
      Hid (f6 = true → f2 = true ∧ f5 = true ∧ x28 = .agg #[.pointer none, .map none, x24, x27, .int .i64 0, .slice none 0 0]) →
      Hid (f7 = true → ∃ q, x7 = .pointer (some ⟨q, 0, none⟩)) →
      C [f0, f1, f2, f3, f4, f5, f6, f7, f8] { tmps := #[y0, y1, y2, y3, y4, .pointer (some ⟨q5, 0, none⟩), .pointer (some ⟨q6, 0, none⟩), x7, y8, y9, y10, y11, y12, y13, y14, y15, y16, y17, y18, y19, y20, y21, x22, x23, x24, x25, x26, x27, x28, y29, y30, y31, y32, y33], defers := [] } w) : C f a w :=
  let ⟨f0, f1, f2, f3, f4, f5, f6, f7, f8, ef, e, x7, x22, x23, x24, x25, x26, x27, x28, ea, hB, h0, h1, h2, h3, h4, h5, h6, h7⟩ := h
  ef ▸ ea ▸ k f0 f1 f2 f3 f4 f5 f6 f7 f8 x7 x22 x23 x24 x25 x26 x27 x28 e hB h0 h1 h2 h3 h4 h5 h6 h7

section
variable {w : World}
set_option maxRecDepth 100000 in
set_option maxHeartbeats 4000000 in
theorem lists_any (PO : PassOk) (va vb : Value) (es fs : List En) (ha : Row encP 2 w va es) (hb : Row encP 2 w vb fs) (hl : es.length ≤ 10000) (hl2 : fs.length ≤ 10000) :
    Calls Tryz.prog 8 #[va, vb] w (GvL w (liL es fs)) := by
  have S0 : Hid (Sep w.heap.size w ((w.alloc (ndO va)).alloc (ndO vb)) [Blk (w.heap.size + 1) (ndO vb), Blk w.heap.size (ndO va)]) := by
    have := ((Sep.nil (B := w.heap.size) (w0 := w) (w := w) (Nat.le_refl _) (Below.refl _ _)).addBlk (ndO va)).addBlk (ndO vb)
    simp only [World.size_alloc] at this
    exact this
  have C1 : Hid _ := leafRight_c va es ((w.alloc (ndO va)).alloc (ndO vb)) (Row.to ha S0.out.bel (Nat.le_refl _)) (by omega)
  have C2 : Hid (∀ u, Below w.heap.size w u → _) := fun u (h : Below w.heap.size w u) => leafRight_c vb fs u (Row.to hb h (Nat.le_refl _)) (by omega)
  have HA : Hid (Row encP 2 w va es) := ha
  have HB : Hid (Row encP 2 w vb fs) := hb
  obtain ⟨aa, ca, rfl, _⟩ := Row.shape ha
  obtain ⟨ab, cb, rfl, _⟩ := Row.shape hb
  clear ha hb
  cases ra : rgB es with
  | false =>
    have E : Hid (liL es fs = []) := by show _ = _; unfold liL; rw [ra]; rfl
    rw [ra] at C1
    have BB := S0.out.bel
    clear C2 HA HB ra
    go_enter Tryz.func8, Tryz.ntmps8
    go_wp2_with (go_at_call 15; refine Calls.mono C1.out ?_; rintro e w1 ⟨rfl, hb1⟩)
    go_ret
    rw [E.out]
    exact ⟨none, 0, rfl, OwnD.nil _ _, BB.trans (hb1.mono S0.out.size)⟩
  | true =>
    rw [ra] at C1
    cases rb : rgB fs with
    | false =>
      have E : Hid (liL es fs = []) := by show _ = _; unfold liL; rw [ra, rb]; rfl
      rw [rb] at C2
      clear HA HB ra rb
      go_enter Tryz.func8, Tryz.ntmps8
      go_wp2_with fail
      refine Calls.mono C1.out ?_
      rintro e w1 ⟨rfl, hb1⟩
      have S1 : Hid (Sep w.heap.size w w1 [Blk (w.heap.size + 1) (ndO (.slice ab fs.length cb)), Blk w.heap.size (ndO (.slice aa es.length ca))]) := S0.out.below hb1
      have CZ : Hid _ := C2.out w1 S1.out.bel
      have n0 : w1.cell? ⟨w.heap.size + 1, 0, none⟩ = some (.bool true) := S1.out.cl.cell 0
      have n1 : w1.cell? ⟨w.heap.size + 1, 1, none⟩ = some (.slice ab fs.length cb) := S1.out.cl.cell 1
      have n2 : w1.cell? ⟨w.heap.size + 1, 2, none⟩ = some (.slice none 0 0) := S1.out.cl.cell 2
      have n3 : w1.cell? ⟨w.heap.size + 1, 3, none⟩ = some (.slice none 0 0) := S1.out.cl.cell 3
      clear S0 C1 C2 hb1
      generalize w.heap.size + 1 = q6 at *
      go_wp2_with (go_at_call 15; refine Calls.mono CZ.out ?_; rintro e w2 ⟨rfl, hb2⟩)
      go_ret
      rw [E.out]
      exact ⟨none, 0, rfl, OwnD.nil _ _, S1.out.bel.trans (hb2.mono S1.out.size)⟩
    | true =>
      have E : Hid (liL es fs = mgD es fs) := by show _ = _; unfold liL; rw [ra, rb]; rfl
      rw [rb] at C2
      clear ra rb
      go_enter Tryz.func8, Tryz.ntmps8
      go_wp2_with fail
      refine Calls.mono C1.out ?_
      rintro e w1 ⟨rfl, hb1⟩
      have S1 : Hid (Sep w.heap.size w w1 [Blk (w.heap.size + 1) (ndO (.slice ab fs.length cb)), Blk w.heap.size (ndO (.slice aa es.length ca))]) := S0.out.below hb1
      have CZ : Hid _ := C2.out w1 S1.out.bel
      have n0 : w1.cell? ⟨w.heap.size + 1, 0, none⟩ = some (.bool true) := S1.out.cl.cell 0
      have n1 : w1.cell? ⟨w.heap.size + 1, 1, none⟩ = some (.slice ab fs.length cb) := S1.out.cl.cell 1
      have n2 : w1.cell? ⟨w.heap.size + 1, 2, none⟩ = some (.slice none 0 0) := S1.out.cl.cell 2
      have n3 : w1.cell? ⟨w.heap.size + 1, 3, none⟩ = some (.slice none 0 0) := S1.out.cl.cell 3
      clear S0 C1 C2 hb1
      generalize w.heap.size + 1 = q6 at *
      go_wp2_with (go_at_call 15; refine Calls.mono CZ.out ?_; rintro e w2 ⟨rfl, hb2⟩)
      have S2 : Hid (Sep w.heap.size w w2 [Blk q6 (ndO (.slice ab fs.length cb)), Blk w.heap.size (ndO (.slice aa es.length ca))]) := S1.out.below hb2
      clear S1 CZ n0 n1 n2 n3 hb2
      refine region_inv 8 (JLi w w.heap.size q6 (.slice aa es.length ca) (.slice ab fs.length cb) es fs _ _ _ _ _ _ _ _ _ _ _ _ _ _ _ _ _ _ _ _ _ _ _ _) (by kernel_rfl) (by kernel_rfl) (by kernel_rfl) ⟨false, false, false, false, false, false, false, false, false, rfl, rfl, _, _, _, _, _, _, _, _, rfl, S2.out.drew, (fun h => by cases h), (fun h => by cases h), (fun h => by cases h), (fun h => by cases h), (fun h => by cases h), (fun h => by cases h), (fun h => by cases h), (fun h => by cases h)⟩ ?_ ?_ ?_
      · intro i f a w' hne hl hJ
        refine JLi.elim hJ (C := fun f a w' => i ∈ Region.ready .any _ f.toArray → wpOp _ _ _ i (fun a' w'' => JLi w w.heap.size q6 (.slice aa es.length ca) (.slice ab fs.length cb) es fs _ _ _ _ _ _ _ _ _ _ _ _ _ _ _ _ _ _ _ _ _ _ _ _ (f.set i true) a' w'') a w') ?_
        clear hJ hl f a
        intro f0 f1 f2 f3 f4 f5 f6 f7 f8 x7 x22 x23 x24 x25 x26 x27 x28 e8 hB h0 h1 h2 h3 h4 h5 h6 h7 hi
        obtain ⟨hlt, hun, _⟩ := ready_mem hi
        have hlt' : i < 9 := hlt
        clear hlt
        rcases (by omega : i = 0 ∨ i = 1 ∨ i = 2 ∨ i = 3 ∨ i = 4 ∨ i = 5 ∨ i = 6 ∨ i = 7) with rfl | rfl | rfl | rfl | rfl | rfl | rfl | rfl
        · have un : f0 = false := hun
          clear hun
          clear hi hne hlt'
          refine wpOp_step rfl (fun K hK => ?_)
          have HK : Shut _ := hK
          clear hK
          go_simp
          refine HK.out _ _ ?_
          exact ⟨true, f1, f2, f3, f4, f5, f6, f7, f8, rfl, e8, _, _, _, _, _, _, _, _, rfl, hB, (fun _ => rfl), h1, h2, h3, h4, h5, h6, h7⟩
        · have un : f1 = false := hun
          clear hun
          clear hi hne hlt'
          obtain ⟨i0, i1, i2, i3⟩ := n4 (LB.sep hB).up1.cl
          refine wpOp_step rfl (fun K hK => ?_)
          have HK : Shut _ := hK
          clear hK
          go_simp
          refine HK.out _ _ ?_
          exact ⟨f0, true, f2, f3, f4, f5, f6, f7, f8, rfl, e8, _, _, _, _, _, _, _, _, rfl, hB, h0, (fun _ => rfl), h2, h3, h4, h5, h6, h7⟩
        · have un : f2 = false := hun
          clear hun
          have d0 : f0 = true := ready_dep 0 hi (by kernel_rfl)
          have y0 := h0.out d0
          subst y0
          have d1 : f1 = true := ready_dep 1 hi (by kernel_rfl)
          have y1 := h1.out d1
          subst y1
          clear hi hne hlt'
          refine wpOp_step rfl (fun K hK => ?_)
          have HK : Shut _ := hK
          clear hK
          go_simp
          refine Calls.mono (with_z aa ca es (by omega) (Nat.le_refl _) HA.out (LB.sep hB)) ?_
          rintro e w1 ⟨ao, c, rfl, s1⟩
          refine HK.out _ _ ?_
          exact ⟨f0, f1, true, f3, f4, f5, f6, f7, f8, rfl, e8, _, _, _, _, _, _, _, _, rfl, LB.two un s1, h0, h1, (fun _ => ⟨_, _, rfl⟩), h3, h4, h5, (fun d => by have e := (h6.out d).1; rw [un] at e; cases e), h7⟩
        · have un : f3 = false := hun
          clear hun
          clear hi hne hlt'
          refine wpOp_step rfl (fun K hK => ?_)
          have HK : Shut _ := hK
          clear hK
          go_simp
          refine HK.out _ _ ?_
          exact ⟨f0, f1, f2, true, f4, f5, f6, f7, f8, rfl, e8, _, _, _, _, _, _, _, _, rfl, hB, h0, h1, h2, (fun _ => rfl), h4, h5, h6, h7⟩
        · have un : f4 = false := hun
          clear hun
          clear hi hne hlt'
          obtain ⟨i0, i1, i2, i3⟩ := n4 (LB.sep hB).cl
          refine wpOp_step rfl (fun K hK => ?_)
          have HK : Shut _ := hK
          clear hK
          go_simp
          refine HK.out _ _ ?_
          exact ⟨f0, f1, f2, f3, true, f5, f6, f7, f8, rfl, e8, _, _, _, _, _, _, _, _, rfl, hB, h0, h1, h2, h3, (fun _ => rfl), h5, h6, h7⟩
        · have un : f5 = false := hun
          clear hun
          have d3 : f3 = true := ready_dep 3 hi (by kernel_rfl)
          have y3 := h3.out d3
          subst y3
          have d4 : f4 = true := ready_dep 4 hi (by kernel_rfl)
          have y4 := h4.out d4
          subst y4
          clear hi hne hlt'
          refine wpOp_step rfl (fun K hK => ?_)
          have HK : Shut _ := hK
          clear hK
          go_simp
          refine Calls.mono (with_z ab cb fs (by omega) (Nat.le_refl _) HB.out (LB.sep hB)) ?_
          rintro e w1 ⟨ao, c, rfl, s1⟩
          refine HK.out _ _ ?_
          exact ⟨f0, f1, f2, f3, f4, true, f6, f7, f8, rfl, e8, _, _, _, _, _, _, _, _, rfl, LB.five un s1, h0, h1, h2, h3, h4, (fun _ => ⟨_, _, rfl⟩), (fun d => by have e := (h6.out d).2.1; rw [un] at e; cases e), h7⟩
        · have un : f6 = false := hun
          clear hun
          have d2 : f2 = true := ready_dep 2 hi (by kernel_rfl)
          obtain ⟨a2, c2, rfl⟩ := h2.out d2
          have d5 : f5 = true := ready_dep 5 hi (by kernel_rfl)
          obtain ⟨a5, c5, rfl⟩ := h5.out d5
          clear hi hne hlt'
          refine wpOp_step rfl (fun K hK => ?_)
          have HK : Shut _ := hK
          clear hK
          go_simp
          refine HK.out _ _ ?_
          exact ⟨f0, f1, f2, f3, f4, f5, true, f7, f8, rfl, e8, _, _, _, _, _, _, _, _, rfl, hB, h0, h1, h2, h3, h4, h5, (fun _ => ⟨d2, d5, rfl⟩), h7⟩
        · have un : f7 = false := hun
          clear hun
          clear hi hne hlt'
          refine wpOp_step rfl (fun K hK => ?_)
          have HK : Shut _ := hK
          clear hK
          go_simp
          refine HK.out _ _ ?_
          exact ⟨f0, f1, f2, f3, f4, f5, f6, true, f8, rfl, e8, _, _, _, _, _, _, _, _, rfl, LB.seven un hB, h0, h1, h2, h3, h4, h5, h6, (fun _ => ⟨_, rfl⟩)⟩
      · intro f a w' hl hJ
        refine JLi.elim hJ (C := fun f a w' => 8 ∈ Region.ready .any _ f.toArray → wpOp _ _ _ 8 _ a w') ?_
        clear hJ hl f a
        intro f0 f1 f2 f3 f4 f5 f6 f7 f8 x7 x22 x23 x24 x25 x26 x27 x28 e8 hB h0 h1 h2 h3 h4 h5 h6 h7 hi
        have d2 : f2 = true := ready_dep 2 hi (by kernel_rfl)
        obtain ⟨a2, c2, rfl⟩ := h2.out d2
        have d5 : f5 = true := ready_dep 5 hi (by kernel_rfl)
        obtain ⟨a5, c5, rfl⟩ := h5.out d5
        have d6 : f6 = true := ready_dep 6 hi (by kernel_rfl)
        obtain ⟨_, _, y6⟩ := h6.out d6
        subst y6
        have d7 : f7 = true := ready_dep 7 hi (by kernel_rfl)
        obtain ⟨q7, rfl⟩ := h7.out d7
        clear hi
        have S6 := LB.end d2 d5 d7 hB
        obtain ⟨k0, k1, k2, k3, k4, k5, g0, g1, g2, g3, g4, g5⟩ := six S6.cl
        refine wpOp_step rfl (fun K hK => ?_)
        have HK : Shut _ := hK
        clear hK
        go_simp
        refine HK.out _ _ ?_
        have S7 : Hid (Sep w.heap.size w ((((((w'.setCell ⟨q7, 0, none⟩ (.pointer none)).setCell ⟨q7, 1, none⟩ (.map none)).setCell ⟨q7, 2, none⟩ (.slice a2 es.length c2)).setCell ⟨q7, 3, none⟩ (.slice a5 fs.length c5)).setCell ⟨q7, 4, none⟩ (.int .i64 0)).setCell ⟨q7, 5, none⟩ (.slice none 0 0)) (WkL q7 es fs [] [] a2 a5 none c2 c5 0)) := by
          have h1 := (((((S6.blkSet 0 (.pointer none)).blkSet 1 (.map none)).blkSet 2 (.slice a2 es.length c2)).blkSet 3 (.slice a5 fs.length c5)).blkSet 4 (.int .i64 0)).blkSet 5 (.slice none 0 0)
          exact wkNew h1
        clear S6 k0 k1 k2 k3 k4 k5 g0 g1 g2 g3 g4 g5 hB h0 h1 h2 h3 h4 h5 h6 h7
        generalize ((((((w'.setCell ⟨q7, 0, none⟩ (.pointer none)).setCell ⟨q7, 1, none⟩ (.map none)).setCell ⟨q7, 2, none⟩ (.slice a2 es.length c2)).setCell ⟨q7, 3, none⟩ (.slice a5 fs.length c5)).setCell ⟨q7, 4, none⟩ (.int .i64 0)).setCell ⟨q7, 5, none⟩ (.slice none 0 0)) = wX at *
        have CR : Hid _ := run_c PO es fs (by omega) (by omega) S7.out
        go_wp2_with (go_at_call 17; refine Calls.mono CR.out ?_; rintro e w9 ⟨ad9, cd9, rfl, s9⟩)
        go_ret
        rw [E.out]
        exact ⟨ad9, cd9, rfl, ownBase s9, s9.bel⟩
      · rintro f a w' ⟨f0, f1, f2, f3, f4, f5, f6, f7, f8, rfl, rfl, _⟩
        rfl
end
end Go.Proofs.YtljmkajpjjdnhaaGreatDoor.N
