/-
  A map from keys to deltas, among things that lie apart; a range over it, in whatever order.
-/
import Derived.Maps.OwnIn
import Derived.Maps.OwnSet
import Derived.Maps.RangeWalk
import Derived.StringKeys
import Derived.Sort.KeysCollected
import Derived.Test.YtljmkajpjjdnhaaGreatDoorTdRow
namespace Go.Proofs.YtljmkajpjjdnhaaGreatDoor.N
open Go.Shelf Go.RowKit Go.Lib Go.Sort
open Go.ChangeMaps (setBlock)
set_option linter.unusedVariables false

def dV (d : Dl) : Value := .agg #[.string d.key, .string d.old, .string d.new, .bool d.was, .bool d.is]
def d0 : Dl := ⟨⟨#[]⟩, ⟨#[]⟩, ⟨#[]⟩, false, false⟩
def RD (v : Value) : Option (DataW Value × List MemPlace) := some (.held v, [])
theorem dV_inj {d e : Dl} (h : dV d = dV e) : d = e := by
  obtain ⟨k, o, n, wa, i⟩ := d
  obtain ⟨k', o', n', wa', i'⟩ := e
  simp [dV] at h
  obtain ⟨rfl, rfl, rfl, rfl, rfl⟩ := h
  rfl
abbrev kL (k : ByteArray) : Lit := .string k.data.toList
theorem kL_inj {k k' : ByteArray} (h : kL k = kL k') : k = k' := by
  have : k.data.toList = k'.data.toList := by injection h
  exact ByteArray.ext (Array.toList_inj.1 this)
theorem kL_ne {k k' : ByteArray} (h : k ≠ k') : kL k ≠ kL k' := fun e => h (kL_inj e)
theorem keyS : Maps.Keyed Tryz.prog 9 := Maps.string_keyed Tryz.underlying9
theorem keyOfS {k : ByteArray} (h : k.size ≤ maxLen) : keyOf Tryz.prog 9 (.string k) = some (kL k) := Go.WideMaps.keyOf_string_mk Tryz.underlying9 h
theorem zeroD (w : World) : (zeroValue 37).run Tryz.prog w = .ok (dV d0) w := by kernel_rfl

abbrev Gd := ByteArray → Option Dl
/-- What a map reads as. -/
def ViewS (D : DataW Value) (g : Gd) : Prop := ∀ k, Maps.has D (kL k) = (g k).isSome ∧ ∀ z, D.atKey (kL k) z = (g k).elim z fun d => .held (dV d)
theorem viewS_nil : ViewS (.map []) (fun _ => none) := fun k => ⟨rfl, fun z => rfl⟩
theorem ViewS.put {D : DataW Value} {g : Gd} (h : ViewS D g) (hD : Maps.IsMap D) (k : ByteArray) (d : Dl) : ViewS (D.put (kL k) (.held (dV d))) (fun q => if k = q then some d else g q) := by
  intro q
  by_cases hq : k = q
  · subst hq
    simp only [if_true]
    have hkl : WideAt.IsKeyLit (kL k) := by simp [WideAt.IsKeyLit]
    exact ⟨Maps.has_put_same hD hkl _, fun z => Maps.atKey_put_same hD hkl _ z⟩
  · simp only [if_neg hq]
    exact ⟨(Maps.has_put_other (kL_ne (Ne.symm hq)) _).trans (h q).1, fun z => (Maps.atKey_put_other (kL_ne (Ne.symm hq)) _ z).trans ((h q).2 z)⟩

def MapS (m : Nat) (g : Gd) (n : Nat) : Res := fun w X => (∃ D, w.ownsMap Tryz.prog 9 RD m n D ∧ ViewS D g) ∧ ∀ k, X k ↔ k = m
theorem good_mapS (m : Nat) (g : Gd) (n : Nat) : Good (MapS m g n) :=
  ⟨fun w w' X h hk _ => by
    obtain ⟨⟨D, ⟨es, clock, hb, r⟩, hv⟩, hX⟩ := h
    exact ⟨⟨D, ⟨es, clock, (hk m ((hX m).2 rfl)).trans hb, r⟩, hv⟩, hX⟩, fun w X h k hk => by
    obtain ⟨⟨D, o, _⟩, hX⟩ := h
    rw [(hX k).1 hk]; exact o.lt⟩
/-- What is left of a range. -/
def LeftS (g : Gd) (done : List ByteArray) (left : Lit → Bool) : Prop := ∀ k, left (kL k) = true ↔ (g k).isSome = true ∧ k ∉ done
def RngS (m r : Nat) (g : Gd) (done : List ByteArray) (cnt : Nat) : Res := fun w X => (∃ D n left, w.ranges Tryz.prog 9 RD m r n D left cnt ∧ ViewS D g ∧ LeftS g done left) ∧ ∀ k, X k ↔ k = m ∨ k = r
theorem ranges_kept {w w' : World} {m r n cnt : Nat} {D : DataW Value} {left : Lit → Bool} (h : w.ranges Tryz.prog 9 RD m r n D left cnt) (hm : w'.heap[m]? = w.heap[m]?) (hr : w'.heap[r]? = w.heap[r]?) : w'.ranges Tryz.prog 9 RD m r n D left cnt := by
  obtain ⟨es, clock, c1, c2, c3, hb, F, hs, hD, hr', rest⟩ := h
  exact ⟨es, clock, c1, c2, c3, hm.trans hb, F, hs, hD, hr.trans hr', rest⟩
theorem good_rng (m r : Nat) (g : Gd) (done : List ByteArray) (cnt : Nat) : Good (RngS m r g done cnt) :=
  ⟨fun w w' X h hk _ => by
    obtain ⟨⟨D, n, left, hr, hv, hl⟩, hX⟩ := h
    exact ⟨⟨D, n, left, ranges_kept hr (hk m ((hX m).2 (.inl rfl))) (hk r ((hX r).2 (.inr rfl))), hv, hl⟩, hX⟩, fun w X h k hk => by
    obtain ⟨⟨D, n, left, hr, _, _⟩, hX⟩ := h
    rcases (hX k).1 hk with e | e
    · rw [e]; exact hr.owns.lt
    · rw [e]; exact hr.lt⟩

section
variable {B : Nat} {w0 w w' : World} {l : List Res} {m r n cnt : Nat} {g : Gd} {done : List ByteArray}
theorem mapS1 (h : Sep B w0 w (MapS m g n :: l)) : ∃ D, w.ownsMap Tryz.prog 9 RD m n D ∧ ViewS D g := by
  obtain ⟨_, _, Y, ⟨_, X, _, ha, _⟩, _⟩ := h; exact ha.1
theorem addMapS (h : Sep B w0 w l) : Sep B w0 (w.alloc (.map #[] 0)) (MapS w.heap.size (fun _ => none) 0 :: l) :=
  h.add ((Below.refl _ _).alloc (Nat.le_refl _) _) (good_mapS _ _ _) (X := fun k => k = w.heap.size) ⟨⟨_, World.ownsMap_made w _ _ _, viewS_nil⟩, fun _ => Iff.rfl⟩ (fun k hk => Nat.le_of_eq hk.symm)
set_option maxRecDepth 100000 in
theorem lookS (h : Sep B w0 w (MapS m g n :: l)) {k : ByteArray} (hk : k.size ≤ maxLen) : (Instr.lookup 63 (.map (some m)) (.string k) true).run Tryz.prog w = .ok (.tuple #[dV ((g k).getD d0), .bool (g k).isSome]) w := by
  obtain ⟨D, o, hv⟩ := mapS1 h
  obtain ⟨v, ps, hr, hR⟩ := o.look_ok keyS Tryz.underlying63 (zeroD w) (zd := .held (dV d0)) (zp := []) rfl (keyOfS hk)
  have e : v = dV ((g k).getD d0) := by
    have e1 : DataW.held v = D.atKey (kL k) (.held (dV d0)) := congrArg Prod.fst (Option.some.inj hR)
    rw [(hv k).2] at e1
    cases hg : g k with
    | none => rw [hg] at e1; simp only [Option.elim] at e1; injection e1 with e2
    | some d' => rw [hg] at e1; simp only [Option.elim] at e1; injection e1 with e2
  rw [hr, e, (hv k).1]
set_option maxRecDepth 100000 in
theorem putS (h : Sep B w0 w (MapS m g n :: l)) {k : ByteArray} (hk : k.size ≤ maxLen) (d : Dl) (hn : n < 1000000) : ∃ w', (Instr.mapUpdate 63 (.map (some m)) (.string k) (dV d)).run Tryz.prog w = .ok () w' ∧ Sep B w0 w' (MapS m (fun q => if k = q then some d else g q) (n + 1) :: l) := by
  obtain ⟨D, o, hv⟩ := mapS1 h
  obtain ⟨w', hr, o', ht⟩ := o.store keyS Tryz.underlying63 (Nat.lt_of_lt_of_le hn (by decide)) (keyOfS hk) (val := dV d) (d := .held (dV d)) (ps := []) rfl
  refine ⟨w', hr, h.step (good_mapS _ _ _) fun X hX => ⟨X, ⟨⟨_, o', hv.put o.isMap k d⟩, hX.2⟩, ?_, fun k hk => .inl hk⟩⟩
  obtain ⟨es, clock, es', clock', hb, rfl⟩ := ht
  exact Turn.setBlock w ((hX.2 m).2 rfl) _
set_option maxRecDepth 100000 in
theorem rangeS (h : Sep B w0 w (MapS m g n :: l)) : ∃ w' c, (Instr.range 63 (.map (some m))).run Tryz.prog w = .ok (.pointer (some ⟨w.heap.size, 0, none⟩)) w' ∧ Sep B w0 w' (RngS m w.heap.size g [] c :: l) ∧ c ≤ n := by
  obtain ⟨D, o, hv⟩ := mapS1 h
  obtain ⟨w', hr, hrg, hgr, hsz⟩ := o.range keyS Tryz.underlying63
  refine ⟨w', _, hr, h.step (good_rng _ _ _ _ _) fun X hX => ⟨fun k => k = m ∨ k = w.heap.size, ⟨⟨D, n, _, hrg, hv, fun k => by rw [(hv k).1]; simp⟩, fun _ => Iff.rfl⟩, Turn.grown hgr (fun k hk => by cases hk), fun k hk => ?_⟩, ?_⟩
  · rcases hk with e | e
    · exact .inl ((hX.2 k).2 e)
    · exact .inr (Nat.le_of_eq e.symm)
  · exact o.size_le
theorem rngS1 (h : Sep B w0 w (RngS m r g done cnt :: l)) : ∃ D n left, w.ranges Tryz.prog 9 RD m r n D left cnt ∧ ViewS D g ∧ LeftS g done left := by
  obtain ⟨_, _, Y, ⟨_, X, _, ha, _⟩, _⟩ := h; exact ha.1
set_option maxRecDepth 100000 in
theorem nextS (h : Sep B w0 w (RngS m r g done cnt :: l)) (ty : TypeId) :
    ((∀ k, (g k).isSome = true → k ∈ done) ∧ (Instr.next (.pointer (some ⟨r, 0, none⟩)) false ty).run Tryz.prog w = .ok (.tuple #[.bool false]) w) ∨
    ∃ k d w' cnt', g k = some d ∧ k ∉ done ∧ (Instr.next (.pointer (some ⟨r, 0, none⟩)) false ty).run Tryz.prog w = .ok (.tuple #[.bool true, .string k, dV d]) w' ∧ Sep B w0 w' (RngS m r g (k :: done) cnt' :: l) ∧ cnt' < cnt ∧
      (Instr.entry (.pointer (some ⟨r, 0, none⟩))).run Tryz.prog w' = .ok (.tuple #[.string k, dV d]) w' := by
  obtain ⟨D, n, left, hr, hv, hl⟩ := rngS1 h
  rcases hr.next keyS ty with ⟨h0, hn, hrun⟩ | ⟨key, v, kl, y, w', cnt', hkey, hlk, hy, hat, hrun, hrg, hlt, hgr, hsz, hen⟩
  · refine .inl ⟨fun k hk => ?_, hrun⟩
    refine Classical.byContradiction fun c => ?_
    have := (hl k).2 ⟨hk, c⟩
    rw [hn] at this
    cases this
  · obtain ⟨x, rfl, rfl, hxl⟩ := Maps.keyOf_str Tryz.underlying9 hkey
    have ek : Lit.string x = kL ⟨x.toArray⟩ := by simp
    rw [ek] at hlk hat hrg
    obtain ⟨g1, g2⟩ := (hl _).1 hlk
    have ey : y = (.held v, []) := (Option.some.inj hy).symm
    obtain ⟨d, hd⟩ := Option.isSome_iff_exists.1 g1
    have ev : v = dV d := by
      have e1 := hat (.held (dV d0))
      rw [(hv _).2, hd, ey] at e1
      simp only [Option.elim] at e1
      injection e1 with e2
      exact e2.symm
    subst ev
    refine .inr ⟨⟨x.toArray⟩, d, w', cnt', hd, g2, hrun, h.step (good_rng _ _ _ _ _) fun X hX => ⟨X, ⟨⟨D, n, _, hrg, hv, fun q => ?_⟩, hX.2⟩, Turn.grown hgr (fun k hk => by cases hk; exact (hX.2 r).2 (.inr rfl)), fun k hk => .inl hk⟩, hlt, hen⟩
    show (left (kL q) && !(kL q).sameKey (kL ⟨x.toArray⟩)) = true ↔ _
    rw [Bool.and_eq_true, hl q, List.mem_cons, not_or, Bool.not_eq_true']
    have es : (kL q).sameKey (kL ⟨x.toArray⟩) = false ↔ q ≠ ⟨x.toArray⟩ := by
      constructor
      · intro h1 e
        rw [e] at h1
        rw [WideAt.sameKey_self (by simp [WideAt.IsKeyLit])] at h1
        cases h1
      · intro h1
        cases h2 : (kL q).sameKey (kL ⟨x.toArray⟩)
        · rfl
        · exact absurd (kL_inj (WideAt.sameKey_eq h2)) h1
    rw [es]
    exact ⟨fun ⟨⟨p1, p2⟩, p3⟩ => ⟨p1, p3, p2⟩, fun ⟨p1, p3, p2⟩ => ⟨⟨p1, p2⟩, p3⟩⟩
end
end Go.Proofs.YtljmkajpjjdnhaaGreatDoor.N
