/-
  The walks of package chain's ends, Body and pagesOf.
-/
import Derived.Test.YtnjnggjbeklmpaaGreatDoorCh
import Derived.Test.YtnjnggjbeklmpaaGreatDoorBRunsA
import Derived.Test.YtnjnggjbeklmpaaGreatDoorBCode
import Derived.Laws.OwnMore
namespace Go.Proofs.YtnjnggjbeklmpaaGreatDoor
open Go.RowKit
set_option linter.unusedVariables false

def endT (r : Pr) : List UInt8 := if endB r = true then endL r else []
def endE (r : Pr) : Int := if endB r = true then 0 else 1

set_option maxHeartbeats 1000000 in
set_option maxRecDepth 100000 in
theorem ends_any (r : Pr) (w : World) : Calls Tryz.prog 40 #[.agg #[.int .i64 r.1, .int .i64 r.2]] w fun e w' => e = .returned (.tuple #[.string ⟨(endT r).toArray⟩, .int .i64 (endE r)]) ∧ Below w.heap.size w w' := by
  obtain ⟨a, b⟩ := r
  have B1 : Hid (Below w.heap.size w (w.alloc (.cells #[.int .i64 a, .int .i64 b] 51))) := (Below.refl _ w).alloc (Nat.le_refl _) _
  have C1 : Hid (Cl (w.alloc (.cells #[.int .i64 a, .int .i64 b] 51)) w.heap.size #[.int .i64 a, .int .i64 b] 51) := Cl.new _ _ _
  by_cases h1 : b < a
  · have E : Hid (endB (a, b) = false) := by show _ = _; unfold endB; rw [decide_eq_false_iff_not]; simp only; omega
    have E1 : Hid (endT (a, b) = []) := by show _ = _; unfold endT; rw [E.out]; rfl
    have E2 : Hid (endE (a, b) = 1) := by show _ = _; unfold endE; rw [E.out]; rfl
    rw [E1.out, E2.out]
    go_enter Tryz.func40, Tryz.ntmps40
    go_wp2
    go_ret2
    exact ⟨rfl, B1.out⟩
  · have P1 : Hid (∀ u, _) := fun u => put_any 4 a u
    have P2 : Hid (∀ u, _) := fun u => put_any 4 b u
    rw [show putS 4 a = if putB 4 a = true then beBytes 4 a.toNat else [] from rfl, show putE 4 a = if putB 4 a = true then 0 else 1 from rfl, putB4_next] at P1
    rw [show putS 4 b = if putB 4 b = true then beBytes 4 b.toNat else [] from rfl, show putE 4 b = if putB 4 b = true then 0 else 1 from rfl, putB4_next] at P2
    cases ha : nextB a with
    | false =>
      have E : Hid (endB (a, b) = false) := by
        show _ = _
        unfold endB
        rw [decide_eq_false_iff_not]
        unfold nextB at ha
        rw [decide_eq_false_iff_not] at ha
        simp only
        omega
      have E1 : Hid (endT (a, b) = []) := by show _ = _; unfold endT; rw [E.out]; rfl
      have E2 : Hid (endE (a, b) = 1) := by show _ = _; unfold endE; rw [E.out]; rfl
      rw [E1.out, E2.out]
      rw [ha, if_neg (by decide), if_neg (by decide)] at P1
      clear P2
      go_enter Tryz.func40, Tryz.ntmps40
      go_wp2_with fail
      generalize w.alloc (.cells #[.int .i64 a, .int .i64 b] 51) = w1 at *
      refine Calls.mono (P1.out w1) ?_
      rintro e w2 ⟨rfl, b2⟩
      have B2 : Hid (Below w.heap.size w w2) := B1.out.trans (b2.mono B1.out.size)
      clear b2 P1 C1 B1
      go_wp2
      go_ret2
      exact ⟨rfl, B2.out⟩
    | true =>
      rw [ha, if_pos rfl, if_pos rfl] at P1
      cases hb : nextB b with
      | false =>
        have E : Hid (endB (a, b) = false) := by
          show _ = _
          unfold endB
          rw [decide_eq_false_iff_not]
          unfold nextB at ha hb
          rw [decide_eq_true_iff] at ha
          rw [decide_eq_false_iff_not] at hb
          simp only
          omega
        have E1 : Hid (endT (a, b) = []) := by show _ = _; unfold endT; rw [E.out]; rfl
        have E2 : Hid (endE (a, b) = 1) := by show _ = _; unfold endE; rw [E.out]; rfl
        rw [E1.out, E2.out]
        rw [hb, if_neg (by decide), if_neg (by decide)] at P2
        clear ha hb
        generalize (beBytes 4 a.toNat).toArray = X at *
        go_enter Tryz.func40, Tryz.ntmps40
        go_wp2_with fail
        generalize w.alloc (.cells #[.int .i64 a, .int .i64 b] 51) = w1 at *
        refine Calls.mono (P1.out w1) ?_
        rintro e w2 ⟨rfl, b2⟩
        have B2 : Hid (Below w.heap.size w w2) := B1.out.trans (b2.mono B1.out.size)
        obtain ⟨c0, c1⟩ := (C1.out.on b2).two
        clear b2 P1 C1 B1
        go_wp2_with fail
        refine Calls.mono (P2.out w2) ?_
        rintro e w3 ⟨rfl, b3⟩
        have B3 : Hid (Below w.heap.size w w3) := B2.out.trans (b3.mono B2.out.size)
        clear b3 P2 B2 c0 c1
        go_wp2
        go_ret2
        exact ⟨rfl, B3.out⟩
      | true =>
        have E : Hid (endB (a, b) = true) := by
          show _ = _
          unfold endB
          rw [decide_eq_true_iff]
          unfold nextB at ha hb
          rw [decide_eq_true_iff] at ha hb
          simp only
          omega
        have E1 : Hid (endT (a, b) = beBytes 4 a.toNat ++ beBytes 4 b.toNat) := by show _ = _; unfold endT; rw [E.out]; rfl
        have E2 : Hid (endE (a, b) = 0) := by show _ = _; unfold endE; rw [E.out]; rfl
        rw [E1.out, E2.out]
        rw [hb, if_pos rfl, if_pos rfl] at P2
        clear ha hb E E1 E2
        have lx : (beBytes 4 a.toNat).length = 4 := beBytes_length _ _
        have ly : (beBytes 4 b.toNat).length = 4 := beBytes_length _ _
        generalize beBytes 4 a.toNat = X at *
        generalize beBytes 4 b.toNat = Y at *
        have J : Hid (∀ u, _) := fun u => join2 ⟨X.toArray⟩ ⟨Y.toArray⟩ u (by rw [ba_size, ba_size]; omega)
        clear lx ly
        go_enter Tryz.func40, Tryz.ntmps40
        go_wp2_with fail
        generalize w.alloc (.cells #[.int .i64 a, .int .i64 b] 51) = w1 at *
        refine Calls.mono (P1.out w1) ?_
        rintro e w2 ⟨rfl, b2⟩
        have B2 : Hid (Below w.heap.size w w2) := B1.out.trans (b2.mono B1.out.size)
        obtain ⟨c0, c1⟩ := (C1.out.on b2).two
        clear b2 P1 C1 B1
        go_wp2_with fail
        refine Calls.mono (P2.out w2) ?_
        rintro e w3 ⟨rfl, b3⟩
        have B3 : Hid (Below w.heap.size w w3) := B2.out.trans (b3.mono B2.out.size)
        clear b3 P2 B2 c0 c1
        go_wp2_with fail
        refine Calls.mono (J.out w3) ?_
        rintro e w4 ⟨rfl, b4⟩
        have B4 : Hid (Below w.heap.size w w4) := B3.out.trans (b4.mono B3.out.size)
        clear b4 J B3
        go_wp2
        go_ret2
        exact ⟨rfl, B4.out⟩

/-- A row of texts of the call's own. -/
abbrev OwnS (base : Nat) (W : World) (v : Value) (l : List ByteArray) : Prop := W.ownsRow base 9 1 v l.length (l.map Value.string)
theorem infoText : (Tryz.prog.info? 9).map (fun i => (i.zero, i.size, i.bytes)) = some (some (.string ByteArray.empty), 1, 16) := by kernel_rfl
theorem app_text {ops : Array Oper} {rest : List Oper} {o : Oper} {a : Act} {Q : Exit → Act → World → Prop} {w : World} (hgd : o.guard = .none) (s x : Operand)
    (ho : o.op = .call { callee := .builtin .append, args := #[s, x], argTypes := #[57, 57] }) (base : Nat) (v : Value) (l : List ByteArray) (hs : a.eval s = v) (hown : OwnS base w v l)
    (b c : Nat) (hx : a.eval x = .slice (some ⟨b, 0, .none⟩) 1 c) (y : ByteArray) (c0 : w.cell? ⟨b, 0, .none⟩ = some (.string y)) (hl : l.length < 1000000) (hbase : base ≤ w.heap.size)
    (h : ∀ ao n c w', OwnS base w' (.slice ao n c) (l ++ [y]) → (∀ w0, Below base w0 w → Below base w0 w') → wpList Tryz.prog ops Q rest (a.put o.dst (.slice ao n c)) w') : wpList Tryz.prog ops Q (o :: rest) a w := by
  obtain ⟨i0, hi, hz0, hz1, hz2⟩ := info_parts infoText
  refine wpList_append_own w hgd s x 57 ho base 9 i0 _ 1 16 Tryz.underlying57 hi hz0 hz1 hz2 rfl (by decide) v _ _ hs hown ⟨b, 0, .none⟩ 1 c [.string y] hx rfl ?_ (fun u hu => by simp at hu; subst hu; rfl) (by unfold maxLen; omega) (by omega) hbase ?_
  · intro j u hj
    match j, hj with
    | 0, hj => simp at hj; subst hj; simpa [Addr.add] using c0
    | j + 1, hj => simp at hj
  · intro v' w' g1 g2 _
    obtain ⟨ao', n', c', rfl⟩ : ∃ ao n c, v' = .slice ao n c := by
      rcases g1.2 with ⟨h, _⟩ | ⟨g, cap, cur, h, _⟩
      · exact ⟨_, _, _, h⟩
      · exact ⟨_, _, _, h⟩
    refine h _ _ _ _ ?_ (fun w0 hb => hb.grown g2 hbase fun k hk => ?_)
    · show w'.ownsRow base 9 1 _ (l ++ [y]).length ((l ++ [y]).map Value.string)
      rw [List.length_append, List.map_append]
      exact g1
    · rcases row_of_owns hown with hr | ⟨r, hr, hle⟩
      · rw [hr] at hk; cases hk
      · rw [hr] at hk; cases hk; exact hle
theorem OwnS.cells {base : Nat} {W : World} {ao : Option Addr} {n c : Nat} {l : List ByteArray} (h : OwnS base W (.slice ao n c) l) (hne : l ≠ []) : ∃ g, ao = some ⟨g, 0, none⟩ ∧ n = l.length ∧ l.length ≤ c ∧ g < W.heap.size ∧ ∀ (j : Nat) x, l[j]? = some x → W.cell? ⟨g, 0 + j, none⟩ = some (.string x) := by
  rcases h.2 with ⟨e, e2⟩ | ⟨g, cap, cur, e, _, hg, hc, _⟩
  · exact absurd (List.length_eq_zero_iff.1 e2) hne
  · cases e
    refine ⟨g, rfl, rfl, hc, (Array.getElem?_eq_some_iff.1 hg).1, fun j x hj => ?_⟩
    obtain ⟨hj1, hj2⟩ := List.getElem?_eq_some_iff.1 hj
    have := h.cellAt j (by omega)
    rw [Nat.zero_add, this]
    simp [hj]

theorem ret_two {a b : List UInt8} {c d : Int} (h1 : a = b) (h2 : c = d) : Ending.returned (.tuple #[.string ⟨a.toArray⟩, .int .i64 c]) = .returned (.tuple #[.string ⟨b.toArray⟩, .int .i64 d]) := by rw [h1, h2]

/-- The parts of a body. -/
def partsOf (l : List Pr) : List ByteArray := l.map fun r => ⟨(endL r).toArray⟩
theorem cat_parts : ∀ l, cat (partsOf l) = runsL l
  | [] => rfl
  | r :: l => by
    have ih := cat_parts l
    unfold cat partsOf at ih ⊢
    rw [List.map_cons, List.map_cons, List.flatten_cons, ih]
    rfl
theorem cat_body (next : Int) (l : List Pr) : cat ((⟨(beBytes 4 next.toNat).toArray⟩ : ByteArray) :: ⟨(beBytes 2 l.length).toArray⟩ :: partsOf l) = bodyL next l := by
  have := cat_parts l
  unfold cat at this ⊢
  rw [List.map_cons, List.map_cons, List.flatten_cons, List.flatten_cons, this]
  rfl
theorem partsOf_snoc (l : List Pr) (r : Pr) : partsOf (l ++ [r]) = partsOf l ++ [⟨(endL r).toArray⟩] := by simp [partsOf]

set_option maxHeartbeats 2000000 in
set_option maxRecDepth 100000 in
theorem body_any (next : Int) (v : Value) (l : List Pr) (w : World) (h : Row encP 2 w v l) (hl : l.length ≤ 1000000) :
    Calls Tryz.prog 18 #[.int .i64 next, v] w fun e w' => e = .returned (.tuple #[.string ⟨(bodyT next l).toArray⟩, .int .i64 (bodyE next l)]) ∧ Below w.heap.size w w' := by
  obtain ⟨ao, cap, rfl, h1, h2, h3⟩ := h
  have H3 : Aside (l ≠ [] → ∃ b off, ao = some ⟨b, off, none⟩ ∧ b < w.heap.size ∧ CellsK encP 2 w b off l) := h3
  clear h3
  by_cases h29 : (29 : Int) < l.length
  · have E : Hid (¬ bodyB next l = true) := fun h => by have := (bodyB_iff.1 h).2.1; omega
    have E1 : Hid (bodyT next l = []) := if_neg E.out
    have E2 : Hid (bodyE next l = 1) := if_neg E.out
    rw [E1.out, E2.out]
    go_enter Tryz.func18, Tryz.ntmps18
    go_wp2
    go_ret2
    exact ⟨rfl, Below.refl _ _⟩
  · have P1 : Hid (∀ u, _) := fun u => put_any 4 next u
    rw [show putS 4 next = if putB 4 next = true then beBytes 4 next.toNat else [] from rfl, show putE 4 next = if putB 4 next = true then 0 else 1 from rfl, putB4_next] at P1
    cases hn : nextB next with
    | false =>
      have E : Hid (¬ bodyB next l = true) := fun h => by have := (bodyB_iff.1 h).1; rw [hn] at this; cases this
      have E1 : Hid (bodyT next l = []) := if_neg E.out
      have E2 : Hid (bodyE next l = 1) := if_neg E.out
      rw [E1.out, E2.out]
      rw [hn, if_neg (by decide), if_neg (by decide)] at P1
      go_enter Tryz.func18, Tryz.ntmps18
      go_wp2_with fail
      refine Calls.mono (P1.out w) ?_
      rintro e w2 ⟨rfl, b2⟩
      have B2 : Hid (Below w.heap.size w w2) := b2
      clear b2 P1
      go_wp2
      go_ret2
      exact ⟨rfl, B2.out⟩
    | true =>
      rw [hn, if_pos rfl, if_pos rfl] at P1
      have P2 : Hid (∀ u, _) := fun u => put2 l.length u (by omega)
      have HN : Hid (nextB next = true) := hn
      have CB : Hid (cat ((⟨(beBytes 4 next.toNat).toArray⟩ : ByteArray) :: ⟨(beBytes 2 l.length).toArray⟩ :: partsOf l) = bodyL next l) := cat_body next l
      clear hn
      generalize (⟨(beBytes 4 next.toNat).toArray⟩ : ByteArray) = X at *
      generalize (⟨(beBytes 2 l.length).toArray⟩ : ByteArray) = Y at *
      go_enter Tryz.func18, Tryz.ntmps18
      go_wp2_with fail
      refine Calls.mono (P1.out w) ?_
      rintro e w2 ⟨rfl, b2⟩
      have B2 : Hid (Below w.heap.size w w2) := b2
      clear b2 P1
      go_wp2_with fail
      refine Calls.mono (P2.out w2) ?_
      rintro e w3 ⟨rfl, b3⟩
      have B3 : Hid (Below w.heap.size w (w3.alloc (.cells #[.string X, .string Y] 9))) := (B2.out.trans (b3.mono B2.out.size)).alloc (Nat.le_trans B2.out.size b3.size) _
      have O3 : Aside (OwnS w.heap.size (w3.alloc (.cells #[.string X, .string Y] 9)) (.slice (some ⟨w3.heap.size, 0, none⟩) 2 2) [X, Y]) := World.ownsRow_lit w3 _ 2 (Nat.le_trans B2.out.size b3.size) (by unfold maxLen; omega) (by simp)
      clear b3 P2 B2
      go_wp2
      generalize w3.alloc (.cells #[.string X, .string Y] 9) = w4 at *
      go_loopg [10, 37] l.length (fun kx s10 s37 wr => ∃ (i : Nat) (ao' : Option Addr) (n' c' : Nat) (ts : List ByteArray), s10 = .slice ao' n' c' ∧ s37 = .int .i64 i ∧ i ≤ l.length ∧ l.length - i ≤ kx ∧ Aside (OwnS w.heap.size wr (.slice ao' n' c') ts) ∧ Hid (ts = X :: Y :: partsOf (l.take i)) ∧ Hid (Below w.heap.size w wr) ∧ Hid (∀ r ∈ l.take i, endB r = true))
      case atStart => exact ⟨0, _, _, _, [X, Y], rfl, rfl, Nat.zero_le _, Nat.le_refl _, O3, rfl, B3, fun r hr => by simp at hr⟩
      case round =>
        obtain ⟨i, ao', n', c', ts, rfl, rfl, hi, hki, HO, HT, HB, HE⟩ := hrel
        clear O3 B3
        by_cases hil : i < l.length
        · have hilz : (i : Int) < (l.length : Int) := by omega
          obtain ⟨b, off, rfl, hb, x1, x2⟩ := row_at H3.out i hil HB.out
          have TT : Hid (l.take (i + 1) = l.take i ++ [l[i]!]) := take_next hil
          have MM : Hid (l[i]! ∈ l) := bang_mem hil
          have hlen : ts.length < 1000000 := by rw [HT.out]; simp [partsOf]; omega
          generalize l[i]! = x at *
          have EN : Hid (∀ u, _) := fun u => ends_any x u
          have O2 : Aside (OwnS w.heap.size (wr.alloc (.cells #[.int .i64 x.1, .int .i64 x.2] 51)) (Value.slice ao' n' c') ts) := HO.out.alloc _
          have B2 : Hid (Below w.heap.size w (wr.alloc (.cells #[.int .i64 x.1, .int .i64 x.2] 51))) := HB.out.alloc HB.out.size _
          clear HO HB
          cases hx : endB x with
          | false =>
            have F0 : Hid (¬ bodyB next l = true) := fun h => by have := (bodyB_iff.1 h).2.2 x MM.out; rw [hx] at this; cases this
            have E1 : Hid (bodyT next l = []) := if_neg F0.out
            have E2 : Hid (bodyE next l = 1) := if_neg F0.out
            rw [show endT x = if endB x = true then endL x else [] from rfl, show endE x = if endB x = true then 0 else 1 from rfl, hx, if_neg (by decide), if_neg (by decide)] at EN
            clear hx
            go_wp2_with fail
            generalize wr.alloc (.cells #[.int .i64 x.1, .int .i64 x.2] 51) = w5 at *
            refine Calls.mono (EN.out w5) ?_
            rintro e w6 ⟨rfl, b6⟩
            have B6 : Hid (Below w.heap.size w w6) := B2.out.trans (b6.mono B2.out.size)
            clear b6 EN
            go_wp2
            go_ret2
            exact ⟨ret_two (a := []) E1.out.symm E2.out.symm, B6.out⟩
          | true =>
            have HX : Hid (endB x = true) := hx
            rw [show endT x = if endB x = true then endL x else [] from rfl, show endE x = if endB x = true then 0 else 1 from rfl, hx, if_pos rfl, if_pos rfl] at EN
            have T3 : Hid (ts ++ [⟨(endL x).toArray⟩] = X :: Y :: partsOf (l.take (i + 1))) := by show _ = _; rw [HT.out, TT.out, partsOf_snoc]; rfl
            have E3 : Hid (∀ r ∈ l.take (i + 1), endB r = true) := fun r hr => by
              rw [TT.out] at hr
              rcases List.mem_append.1 hr with hr | hr
              · exact HE.out r hr
              · rw [List.mem_singleton.1 hr]; exact HX.out
            clear hx HT HE TT
            generalize (⟨(endL x).toArray⟩ : ByteArray) = t at *
            go_wp2_with fail
            generalize wr.alloc (.cells #[.int .i64 x.1, .int .i64 x.2] 51) = w5 at *
            refine Calls.mono (EN.out w5) ?_
            rintro e w6 ⟨rfl, b6⟩
            have B6 : Hid (Below w.heap.size w w6) := B2.out.trans (b6.mono B2.out.size)
            have O6 : Aside (OwnS w.heap.size w6 (Value.slice ao' n' c') ts) := ownsRow_below O2.out b6
            have hs6 : w.heap.size ≤ w6.heap.size := B6.out.size
            clear b6 EN O2 B2
            go_wp2_with (at_builtin; refine app_text rfl _ _ rfl w.heap.size _ ts rfl (O6.out.alloc _) w6.heap.size 1 rfl t (by simp) hlen (by simp; omega) ?_)
            intro ao7 n7 c7 w7 HO7 HB7
            have O7 : Aside (OwnS w.heap.size w7 (.slice ao7 n7 c7) (ts ++ [t])) := HO7
            have B7 : Hid (Below w.heap.size w w7) := HB7 _ (B6.out.alloc hs6 _)
            clear HO7 HB7 O6 B6
            go_wp2
            go_roundg (l.length - (i + 1))
            case measure => omega
            case rel => exact ⟨i + 1, ao7, n7, c7, _, rfl, by go_num, by omega, Nat.le_refl _, O7, T3, B7, E3⟩
        · have hilz : ¬ (i : Int) < (l.length : Int) := by omega
          obtain rfl : i = l.length := by omega
          rw [List.take_length] at HE HT
          have F1 : Hid (bodyB next l = true) := bodyB_iff.2 ⟨HN.out, by omega, HE.out⟩
          have E1 : Hid (bodyT next l = bodyL next l) := if_pos F1.out
          have E2 : Hid (bodyE next l = 0) := if_pos F1.out
          have hne : ts ≠ [] := by rw [HT.out]; simp
          obtain ⟨g, rfl, rfl, hcap, hg, hcells⟩ := HO.out.cells hne
          have JJ : Hid _ := join_any g 0 c' ts.length ts wr hcells hg rfl (by rw [HT.out]; simp [partsOf]; omega) hcap (by rw [HT.out, CB.out, bodyL_length]; omega)
          rw [HT.out, CB.out, ← HT.out] at JJ
          clear hcells hne HT HE CB HO F1 hcap
          generalize ts.length = tl at *
          generalize bodyL next l = Z at *
          go_wp2_with fail
          refine Calls.mono JJ.out ?_
          rintro e w6 ⟨rfl, b6⟩
          have B6 : Hid (Below w.heap.size w w6) := HB.out.trans (b6.mono HB.out.size)
          clear b6 JJ
          go_wp2
          go_ret2
          exact ⟨ret_two E1.out.symm E2.out.symm, B6.out⟩

set_option maxHeartbeats 400000 in
theorem pagesOf_any (ao : Option Addr) (n c : Nat) (w : World) (hn : n ≤ 1000000) : Calls Tryz.prog 24 #[.slice ao n c] w fun e w' => e = .returned (.int .i64 (pagesN n)) ∧ w = w' := by
  have E : Hid (((n : Int) + 29 - 1) / 29 = ((pagesN n : Nat) : Int)) := by show _ = _; unfold pagesN; omega
  have e1 : wrap64 ((n : Int) + 29) = (n : Int) + 29 := by unfold wrap64; omega
  have e2 : wrap64 ((n : Int) + 29 - 1) = (n : Int) + 29 - 1 := by unfold wrap64; omega
  go_enter Tryz.func24, Tryz.ntmps24
  go_wp2
  go_ret
  exact ⟨ret_int E.out, rfl⟩

end Go.Proofs.YtnjnggjbeklmpaaGreatDoor
