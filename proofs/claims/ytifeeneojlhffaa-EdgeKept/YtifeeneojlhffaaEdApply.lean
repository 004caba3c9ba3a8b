/-
  The walks of edge.last and of edge.Apply.
-/
import Derived.Test.YtifeeneojlhffaaEdLast
namespace Go.Proofs.Ytifeeneojlhffaa
open Go.Shelf Go.RowKit Go.Lib Go.Sort

set_option maxHeartbeats 2000000 in
theorem last_any (v : Value) (c : List Ch) (w : World) (h : Row encC 3 w v c) (hl : c.length ≤ 100000) :
    Calls Try.prog 45 #[v] w fun e w' => ∃ v' d, e = .returned v' ∧ Own encC 3 w.heap.size w' v' d ∧ lastOf c d ∧ d.length ≤ c.length ∧ Below w.heap.size w w' := by
  have HC : Hid _ := cloneChange_any v c w h (by omega)
  obtain ⟨ao0, cap0, rfl, _⟩ := id h
  clear h
  go_enter Try.func45, Try.ntmps45
  go_wp2_with fail
  refine Calls.mono HC.out ?_
  rintro e w1 ⟨v1, rfl, ⟨ao, cap, rfl, h1, h2, h3⟩, hb1⟩
  by_cases hne : c = []
  · subst hne
    have R : Calls Try.prog 59 #[.slice ao 0 cap] w1 fun e w' => e = .returned (.tuple #[]) ∧ w' = w1 := AnyQ.slices_Reverse_empty Try.revChange ao cap w1
    have HR : Hid _ := R
    have HS : Hid _ := stable_short ao cap w1
    clear R h3
    simp only [List.length_nil]
    go_wp2_with fail
    refine Calls.mono HR.out ?_
    rintro e w2 ⟨rfl, rfl⟩
    go_wp2_with fail
    refine Calls.mono HS.out ?_
    rintro e w3 ⟨rfl, hb3⟩
    have HK : Hid _ := compactF_short ao cap w3
    go_wp2_with fail
    refine Calls.mono HK.out ?_
    rintro e w4 ⟨rfl, rfl⟩
    go_wp2
    go_ret
    exact ⟨_, [], rfl, ⟨ao, cap, rfl, h1, h2, fun h => absurd rfl h⟩, ⟨List.Pairwise.nil, fun ch => by simp⟩, Nat.le_refl _, hb1.trans (hb3.mono hb1.size)⟩
  · obtain ⟨g, off, rfl, hbase, hlt, hH⟩ := h3 hne
    have hRr : RowK encC 3 w1 g off c.toArray := ⟨encC_len, encC_one, hH, hlt⟩
    have R := AnyQ.slices_Reverse Try.revChange 3 Try.isAgg50 Try.sizeOf50 encC encC_len encC_one g off cap c.toArray w1 hH (by simp; omega)
    rw [show c.toArray.size = c.length by simp, List.reverse_toArray] at R
    have HR : Hid _ := R
    have HX : Hid (RowK encC 3 w1 g off c.toArray) := hRr
    clear R h3 hH hRr
    go_wp2_with fail
    refine Calls.mono HR.out ?_
    rintro e w2 ⟨rfl, n, rfl⟩
    have S2 : SWK encC 3 w1 g off c.reverse.toArray (putRowK encC 3 (Go.Sort.ahead w1 n) g off c.reverse.toArray) := ⟨n, #[], by rw [sortWorldK, grow_empty]⟩
    have hH2 := S2.holds HX.out.hblk HX.out.hH (by simp)
    have lt2 := S2.lt HX.out.hblk
    have B2 : Hid (Below w.heap.size w1 (putRowK encC 3 (Go.Sort.ahead w1 n) g off c.reverse.toArray)) := swk_below S2 hbase hb1.size
    generalize putRowK encC 3 (Go.Sort.ahead w1 n) g off c.reverse.toArray = w2 at hH2 lt2 B2 ⊢
    have hs2 : w.heap.size ≤ w2.heap.size := Nat.le_trans hb1.size B2.out.size
    have hX2 : RowK encC 3 w2 g off c.reverse.toArray := ⟨encC_len, encC_one, hH2, lt2⟩
    have S := sortStable_any g off cap c.reverse w2 (by simp; omega) lt2 hH2
    rw [List.length_reverse] at S
    have HS : Hid _ := S
    have HX2 : Hid (RowK encC 3 w2 g off c.reverse.toArray) := hX2
    clear S S2 hH2 hX2
    go_wp2_with fail
    refine Calls.mono HS.out ?_
    rintro e w3 ⟨rfl, d', hd1, hd2, hd3, hd4⟩
    have C := compactFunc_any cpP 3 Try.isAgg50 Try.sizeOf50 encC (fun x y => decide (x.1 = y.1)) 63 (enters_of Try.func63 (by kernel_rfl) rfl) (fun x y w => by simpa using last2_any x y w) #[.int .i64 0, .int .i64 0, .bool false] Try.zeroValue50 rfl (by decide) (by decide) g off cap c.reverse.toArray d' w2 w3 HX2.out (by simp [hd1]) hd4 (by omega) (by omega) (by omega)
    rw [hd1] at C
    have HL : Hid (lastOf c (uniq (fun x y => decide (x.1 = y.1)) d'.toList)) := lastOf_stable c d'.toList (pairwiseC (by rw [hd1]; exact hd2)) hd3
    have hlen : (uniq (fun x y : Ch => decide (x.1 = y.1)) d'.toList).length ≤ c.length := Nat.le_trans (uniq_length _ _) (by simp; omega)
    have HK : Hid _ := C
    clear C hd2 hd3 hd4
    go_wp2_with fail
    refine Calls.mono HK.out ?_
    rintro e w4 ⟨rfl, hH4, hlt4, hB4⟩
    go_wp2
    go_ret
    exact ⟨_, _, rfl, ⟨_, cap, rfl, by omega, (fun h => by cases h), fun _ => ⟨g, off, rfl, hbase, hlt4, hH4⟩⟩, HL.out, hlen, (hb1.trans B2.out).trans (hB4 _ hbase hs2)⟩

theorem OwnP.first {base : Nat} {W : World} {v : Value} {x : Pr} {l : List Pr} {g : Nat} (h : OwnP base W v (x :: l)) (hg : v.ownBlock = some g) : W.cell? ⟨g, 0, none⟩ = some (.int .i64 x.1) ∧ W.cell? ⟨g, 1, none⟩ = some (.int .i64 x.2) := by
  have e : ∀ t, t < 2 → (flatK encP 2 (x :: l).toArray).toList[t]? = some (encP x)[t]! := fun t ht => by
    rw [List.getElem?_eq_getElem (by simp; omega), Array.getElem_toList, ← getElem!_pos _ t (by simp; omega), get_flatK _ _ _ _ (by simp; omega), show t / 2 = 0 by omega, show t % 2 = t by omega]
    simp
  have c0 := World.ownsRow.cells h hg 0 _ (e 0 (by omega))
  have c1 := World.ownsRow.cells h hg 1 _ (e 1 (by omega))
  simp [Addr.add, encP] at c0 c1
  exact ⟨c0, c1⟩

theorem apart_of {base : Nat} {W : World} {v u : Value} {l m : List Pr} (h : OwnP base W v l) (k : OwnP base W u m) (hl : l = [] → v.ownBlock = none) (hm : m = [] → u.ownBlock = none) (hd : ∀ x ∈ l, x ∉ m) : u.ownBlock = none ∨ u.ownBlock ≠ v.ownBlock := by
  cases hu : u.ownBlock with
  | none => exact Or.inl rfl
  | some g =>
    refine Or.inr fun e => ?_
    cases l with
    | nil => rw [hl rfl] at e; cases e
    | cons x l =>
      cases m with
      | nil => rw [hm rfl] at hu; cases hu
      | cons y m =>
        obtain ⟨a0, a1⟩ := h.first e.symm
        obtain ⟨b0, b1⟩ := k.first hu
        rw [a0] at b0
        rw [a1] at b1
        have e0 : x.1 = y.1 := by simpa using b0
        have e1 : x.2 = y.2 := by simpa using b1
        have e2 : x = y := Prod.ext e0 e1
        exact hd x (List.mem_cons_self ..) (by rw [e2]; exact List.mem_cons_self ..)

/-- One pair appended to such a row, another one beside it. -/
theorem app_pair2 {ops : Array Oper} {rest : List Oper} {o : Oper} {a : Act} {Q : Exit → Act → World → Prop} {w : World} (hgd : o.guard = .none) (s x : Operand)
    (ho : o.op = .call { callee := .builtin .append, args := #[s, x], argTypes := #[39, 39] }) (base : Nat) (v : Value) (l : List Pr) (hs : a.eval s = v) (hown : OwnP base w v l)
    (b off c : Nat) (hx : a.eval x = .slice (some ⟨b, off, .none⟩) 1 c) (y : Pr) (c0 : w.cell? ⟨b, off, .none⟩ = some (.int .i64 y.1)) (c1 : w.cell? ⟨b, off + 1, .none⟩ = some (.int .i64 y.2)) (hl : l.length < 1000000) (hbase : base ≤ w.heap.size)
    (u : Value) (m : List Pr) (hu : OwnP base w u m) (hne : u.ownBlock = .none ∨ u.ownBlock ≠ v.ownBlock)
    (h : ∀ ao n c w', OwnP base w' (.slice ao n c) (l ++ [y]) → (∀ w0, Below base w0 w → Below base w0 w') → OwnP base w' u m → wpList Try.prog ops Q rest (a.put o.dst (.slice ao n c)) w') : wpList Try.prog ops Q (o :: rest) a w := by
  obtain ⟨i0, hi, hz0, hz1, hz2⟩ := info_parts infoPair
  refine wpList_append_own w hgd s x 39 ho base 25 i0 _ 2 16 Try.underlying39 hi hz0 hz1 hz2 rfl (by decide) v _ _ hs hown ⟨b, off, .none⟩ 1 c (encP y) hx rfl ?_ (encP_one y) (by unfold maxLen; omega) (by omega) hbase ?_
  · intro j u hj
    simp only [encP] at hj
    match j, hj with
    | 0, hj => simp at hj; subst hj; simpa [Addr.add] using c0
    | 1, hj => simp at hj; subst hj; simpa [Addr.add] using c1
  · intro v' w' h1 h2 _
    obtain ⟨s1, s2⟩ := OwnP.step hbase hown h2 h1
    have s3 : OwnP base w' u m := World.ownsRow.kept hu h2 hne
    obtain ⟨ao', n', c', rfl⟩ : ∃ ao n c, v' = .slice ao n c := by
      rcases h1.2 with ⟨h, _⟩ | ⟨g, cap, cur, h, _⟩
      · exact ⟨_, _, _, h⟩
      · exact ⟨_, _, _, h⟩
    exact h _ _ _ _ s1 s2 s3

theorem insOf_snoc (l : List Ch) (x : Pr) (f : Bool) : insOf (l ++ [(x, f)]) = if f = true then insOf l ++ [x] else insOf l := by
  cases f <;> simp [insOf]
theorem outsOf_snoc (l : List Ch) (x : Pr) (f : Bool) : outsOf (l ++ [(x, f)]) = if f = true then outsOf l else outsOf l ++ [x] := by
  cases f <;> simp [outsOf]
theorem ins_outs {d : List Ch} (h : SC d) (i : Nat) : ∀ x ∈ insOf (d.take i), x ∉ outsOf (d.take i) := fun x h1 h2 => by
  rw [mem_insOf] at h1
  rw [mem_outsOf] at h2
  have h3 : SC (d.take i) := h.take
  have key : ∀ {l : List Ch}, SC l → (x, true) ∈ l → (x, false) ∈ l → False := fun {l} hl => by
    induction l with
    | nil => intro a; cases a
    | cons y l ih =>
      intro a b
      have hy := List.pairwise_cons.1 hl
      rcases List.mem_cons.1 a with a | a
      · rcases List.mem_cons.1 b with b | b
        · rw [← a] at b; cases b
        · have := hy.1 _ b; rw [← a, ltP_irrefl] at this; cases this
      · rcases List.mem_cons.1 b with b | b
        · have := hy.1 _ a; rw [← b, ltP_irrefl] at this; cases this
        · exact ih hy.2 a b
  exact key h3 h1 h2

set_option maxHeartbeats 4000000 in
set_option maxRecDepth 100000 in
theorem Apply_any (va vc : Value) (l : List Pr) (c : List Ch) (w : World) (ha : Row encP 2 w va l) (hc : Row encC 3 w vc c) (hl : l.length + c.length ≤ 1000) :
    Calls Try.prog 26 #[va, vc] w fun e w' => ∃ v' r, e = .returned v' ∧ Own encP 2 w.heap.size w' v' r ∧ applyOf l c r ∧ Below w.heap.size w w' := by
  have HC : Hid _ := last_any vc c w hc (by omega)
  have RA : Hid (Row encP 2 w va l) := ha
  obtain ⟨aoa, ca, rfl, _⟩ := id ha
  obtain ⟨aoc, cc, rfl, _⟩ := id hc
  clear ha hc
  go_enter Try.func26, Try.ntmps26
  go_wp2_with fail
  refine Calls.mono HC.out ?_
  rintro e w1 ⟨v1, d, rfl, o1, hlast, hdl, b1⟩
  have hs1 : w.heap.size ≤ w1.heap.size := b1.size
  have B1 : Hid (Below w.heap.size w w1) := b1
  have HL : Hid (lastOf c d) := hlast
  obtain ⟨ao, cap, rfl, h1, h2, h3⟩ := o1.row
  have H3 : Aside (d ≠ [] → ∃ b off, ao = some ⟨b, off, none⟩ ∧ b < w1.heap.size ∧ CellsK encC 3 w1 b off d) := h3
  clear h3 o1 b1 hlast HC
  go_wp2
  go_loopg [5, 6, 12] d.length (fun kx s5 s6 s12 wr => ∃ (i : Nat) (a1 a2 : Option Addr) (n1 n2 c1 c2 : Nat), s5 = .slice a1 n1 c1 ∧ s6 = .slice a2 n2 c2 ∧ s12 = .int .i64 i ∧ i ≤ d.length ∧ d.length - i ≤ kx ∧ Aside (OwnP w1.heap.size wr (.slice a1 n1 c1) (insOf (d.take i))) ∧ Aside (OwnP w1.heap.size wr (.slice a2 n2 c2) (outsOf (d.take i))) ∧ Hid (insOf (d.take i) = [] → (Value.slice a1 n1 c1).ownBlock = none) ∧ Hid (outsOf (d.take i) = [] → (Value.slice a2 n2 c2).ownBlock = none) ∧ Hid (Below w1.heap.size w1 wr))
  case atStart => exact ⟨0, none, none, 0, 0, 0, 0, rfl, rfl, rfl, Nat.zero_le _, Nat.le_refl _, OwnP.empty _ _, OwnP.empty _ _, fun _ => rfl, fun _ => rfl, Below.refl _ _⟩
  case round =>
    obtain ⟨i, a1, a2, n1, n2, c1, c2, rfl, rfl, rfl, hi, hki, HI, HO, NI, NO, HB⟩ := hrel
    have hsz : w1.heap.size ≤ wr.heap.size := HB.out.size
    by_cases hil : i < d.length
    · have hilz : (i : Int) < (d.length : Int) := by omega
      obtain ⟨bk, off, rfl, hbk, x1, x2, x3⟩ := rowC_at H3.out i hil HB.out
      have AP : Hid (∀ x ∈ insOf (d.take i), x ∉ outsOf (d.take i)) := ins_outs HL.out.1 i
      have LI : (insOf (d.take i)).length ≤ 1000 := by unfold insOf; rw [List.length_map]; exact Nat.le_trans (List.length_filter_le _ _) (by simp; omega)
      have LO : (outsOf (d.take i)).length ≤ 1000 := by unfold outsOf; rw [List.length_map]; exact Nat.le_trans (List.length_filter_le _ _) (by simp; omega)
      have T : Hid (d.take (i + 1) = d.take i ++ [d[i]!]) := take_next hil
      generalize d[i]! = x at *
      obtain ⟨x, f⟩ := x
      simp only at x1 x2 x3
      have hne1 := apart_of HI.out HO.out NI.out NO.out AP.out
      have hne2 := apart_of HO.out HI.out NO.out NI.out (fun x h1 h2 => AP.out x h2 h1)
      have BX : Hid (Below w1.heap.size w1 (wr.alloc (.cells #[.int .i64 x.1, .int .i64 x.2, .bool f] 50))) := HB.out.alloc hsz _
      have hsb : w1.heap.size ≤ (wr.alloc (.cells #[.int .i64 x.1, .int .i64 x.2, .bool f] 50)).heap.size := BX.out.size
      have HN1 : Hid ((Value.slice a2 n2 c2).ownBlock = none ∨ (Value.slice a2 n2 c2).ownBlock ≠ (Value.slice a1 n1 c1).ownBlock) := hne1
      have HN2 : Hid ((Value.slice a1 n1 c1).ownBlock = none ∨ (Value.slice a1 n1 c1).ownBlock ≠ (Value.slice a2 n2 c2).ownBlock) := hne2
      clear hne1 hne2
      cases f with
      | true =>
        have T1 : Hid (insOf (d.take (i + 1)) = insOf (d.take i) ++ [x]) := by rw [T.out, insOf_snoc]; rfl
        have T2 : Hid (outsOf (d.take (i + 1)) = outsOf (d.take i)) := by rw [T.out, outsOf_snoc]; rfl
        go_wp2_with (at_builtin; refine app_pair2 rfl _ _ rfl w1.heap.size _ (insOf (d.take i)) rfl ((HI.out.alloc _).alloc _) (wr.heap.size + 1) 0 1 rfl x (by simp) (by simp) (by omega) (by simp; omega) (.slice a2 n2 c2) (outsOf (d.take i)) ((HO.out.alloc _).alloc _) HN1.out ?_)
        intro ao2 m2 k2 w3 HI3 HB3 HO3
        have HI4 : Aside (OwnP w1.heap.size w3 (.slice ao2 m2 k2) (insOf (d.take i) ++ [x])) := HI3
        have HO4 : Aside (OwnP w1.heap.size w3 (.slice a2 n2 c2) (outsOf (d.take i))) := HO3
        have HB4 : Hid (Below w1.heap.size w1 w3) := HB3 _ (BX.out.alloc hsb _)
        clear HI3 HB3 HO3
        go_wp2
        go_roundg (d.length - (i + 1))
        case measure => omega
        case rel =>
          refine ⟨i + 1, ao2, a2, m2, n2, k2, c2, rfl, rfl, by go_num, by omega, Nat.le_refl _, ?_, ?_, ?_, ?_, HB4⟩
          · rw [T1.out]; exact HI4
          · rw [T2.out]; exact HO4
          · rw [T1.out]; exact fun h => by simp at h
          · rw [T2.out]; exact NO
      | false =>
        have T1 : Hid (insOf (d.take (i + 1)) = insOf (d.take i)) := by rw [T.out, insOf_snoc]; rfl
        have T2 : Hid (outsOf (d.take (i + 1)) = outsOf (d.take i) ++ [x]) := by rw [T.out, outsOf_snoc]; rfl
        go_wp2_with (at_builtin; refine app_pair2 rfl _ _ rfl w1.heap.size _ (outsOf (d.take i)) rfl ((HO.out.alloc _).alloc _) (wr.heap.size + 1) 0 1 rfl x (by simp) (by simp) (by omega) (by simp; omega) (.slice a1 n1 c1) (insOf (d.take i)) ((HI.out.alloc _).alloc _) HN2.out ?_)
        intro ao2 m2 k2 w3 HO3 HB3 HI3
        have HO4 : Aside (OwnP w1.heap.size w3 (.slice ao2 m2 k2) (outsOf (d.take i) ++ [x])) := HO3
        have HI4 : Aside (OwnP w1.heap.size w3 (.slice a1 n1 c1) (insOf (d.take i))) := HI3
        have HB4 : Hid (Below w1.heap.size w1 w3) := HB3 _ (BX.out.alloc hsb _)
        clear HI3 HB3 HO3
        go_wp2
        go_roundg (d.length - (i + 1))
        case measure => omega
        case rel =>
          refine ⟨i + 1, a1, ao2, n1, m2, c1, k2, rfl, rfl, by go_num, by omega, Nat.le_refl _, ?_, ?_, ?_, ?_, HB4⟩
          · rw [T1.out]; exact HI4
          · rw [T2.out]; exact HO4
          · rw [T1.out]; exact NI
          · rw [T2.out]; exact fun h => by simp at h
    · have hilz : ¬ (i : Int) < (d.length : Int) := by omega
      obtain rfl : i = d.length := by omega
      rw [List.take_length] at HI HO
      have B2 : Hid (Below w.heap.size w wr) := B1.out.trans (HB.out.mono hs1)
      have hsr : w.heap.size ≤ wr.heap.size := by omega
      have HS : Hid _ := sort_any _ l wr (RA.out.below B2.out) (by omega)
      have LO : (outsOf d).length ≤ d.length := by unfold outsOf; rw [List.length_map]; exact List.length_filter_le _ _
      have LI : (insOf d).length ≤ d.length := by unfold insOf; rw [List.length_map]; exact List.length_filter_le _ _
      have OI : Hid (Own encP 2 w1.heap.size wr (.slice a1 n1 c1) (insOf d)) := HI.out.own
      have OO : Hid (Own encP 2 w1.heap.size wr (.slice a2 n2 c2) (outsOf d)) := HO.out.own
      clear HI HO NI NO
      go_wp2_with fail
      refine Calls.mono HS.out ?_
      rintro e w2 ⟨v2, s, rfl, o2, ss2, ls2, ms2, b2⟩
      have HM : Hid _ := minus_any _ _ s (outsOf d) w2 o2.row (OO.out.below b2).row (by omega)
      have OI2 : Hid (Own encP 2 w1.heap.size w2 (.slice a1 n1 c1) (insOf d)) := OI.out.below b2
      have B3 : Hid (Below w.heap.size w w2) := B2.out.trans (b2.mono hsr)
      have hs3 : w.heap.size ≤ w2.heap.size := Nat.le_trans hsr b2.size
      obtain ⟨y2, z2, rfl, _⟩ := id o2
      clear o2 b2
      go_wp2_with fail
      refine Calls.mono HM.out ?_
      rintro e w3 ⟨v3, rfl, o3, b3⟩
      have ML : ((ev s (outsOf d)).filterMap minusL).length ≤ 2000 := Nat.le_trans (List.length_filterMap_le _ _) (Nat.le_trans (ev_length _ s (outsOf d) (Nat.le_refl _)) (by omega))
      have ML2 : ((ev s (outsOf d)).filterMap minusL).length ≤ s.length + (outsOf d).length := Nat.le_trans (List.length_filterMap_le _ _) (ev_length _ s (outsOf d) (Nat.le_refl _))
      have HU : Hid _ := union_any _ _ _ (insOf d) w3 o3.row (OI2.out.below b3).row (by omega)
      have B4 : Hid (Below w.heap.size w w3) := B3.out.trans (b3.mono hs3)
      have hs4 : w.heap.size ≤ w3.heap.size := Nat.le_trans hs3 b3.size
      obtain ⟨y3, z3, rfl, _⟩ := id o3
      clear o3 b3
      go_wp2_with fail
      refine Calls.mono HU.out ?_
      rintro e w4 ⟨v4, rfl, o4, b4⟩
      have O4 : Hid _ := o4
      obtain ⟨y4, z4, rfl, _⟩ := id o4
      clear o4
      go_wp2
      go_ret
      have sd := HL.out.1
      obtain ⟨m1, m2⟩ := minus_spec ss2 (outsOf_ss sd)
      obtain ⟨u1, u2⟩ := union_spec m1 (insOf_ss sd)
      refine ⟨_, _, rfl, Own.mono O4.out hs4, ⟨u1, fun x => ?_⟩, B4.out.trans (b4.mono hs4)⟩
      rw [u2 x, m2 x, ms2 x, apply_last HL.out x]

end Go.Proofs.Ytifeeneojlhffaa
