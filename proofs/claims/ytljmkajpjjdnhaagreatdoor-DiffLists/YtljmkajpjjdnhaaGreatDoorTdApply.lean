/-
  The walk of package treediff's Apply.
-/
import Derived.Test.YtljmkajpjjdnhaaGreatDoorTdMap
import Derived.Test.YtljmkajpjjdnhaaGreatDoorTdSort
import Derived.Test.YtljmkajpjjdnhaaGreatDoorTdRight
namespace Go.Proofs.YtljmkajpjjdnhaaGreatDoor.N
open Go.Shelf Go.RowKit Go.Lib Go.Sort
set_option linter.unusedVariables false
set_option linter.unusedSectionVars false
variable [DecidableEq Dl] [Inhabited Dl] [Inhabited Th]

/-- What Apply answers. -/
def apP (l : List En) (ds : List Dl) : List En := if rgB l = true then apL l ds else l
theorem rowD_at {w wr : World} {ao : Option Addr} {l : List Dl} (h3 : l ≠ [] → ∃ b off, ao = some ⟨b, off, none⟩ ∧ b < w.heap.size ∧ CellsK encD 5 w b off l) (i : Nat) (hi : i < l.length) (hb : Below w.heap.size w wr) :
    ∃ b off, ao = some ⟨b, off, none⟩ ∧ b < w.heap.size ∧ wr.cell? ⟨b, off + i * 5, none⟩ = some (.string l[i]!.key) ∧ wr.cell? ⟨b, off + i * 5 + 1, none⟩ = some (.string l[i]!.old) ∧ wr.cell? ⟨b, off + i * 5 + 2, none⟩ = some (.string l[i]!.new) ∧ wr.cell? ⟨b, off + i * 5 + 3, none⟩ = some (.bool l[i]!.was) ∧ wr.cell? ⟨b, off + i * 5 + 4, none⟩ = some (.bool l[i]!.is) := by
  obtain ⟨b, off, e, hlt, hc⟩ := h3 (by intro h; rw [h] at hi; simp at hi)
  have key : ∀ j, j < 5 → wr.cell? ⟨b, off + (i * 5 + j), none⟩ = (encD l[i]!)[j]? := fun j hj => by
    rw [hb.cell (p := ⟨b, off + (i * 5 + j), none⟩) hlt, hc (i * 5 + j) (by omega), get_flatK _ _ _ _ (by simp; omega), show (i * 5 + j) / 5 = i by omega, show (i * 5 + j) % 5 = j by omega, getElem!_pos (encD _) j (by rw [encD_len]; exact hj), List.getElem?_eq_getElem (by rw [encD_len]; exact hj)]
    simp
  exact ⟨b, off, e, hlt, key 0 (by omega), key 1 (by omega), key 2 (by omega), key 3 (by omega), key 4 (by omega)⟩
/-- Two deltas: the first one's key is the last one's. -/
theorem lsD_take {ds : List Dl} {i : Nat} (h : i < ds.length) : (fun q => lsD (ds.take (i + 1)) q) = fun q => if (okD ds[i]! && decide (ds[i]!.key = q)) = true then some ds[i]! else lsD (ds.take i) q := by
  funext q
  rw [take_next h, lsD_snoc]
theorem putS2 {g : Gd} {d : Dl} : (fun q => if d.key = q then some d else g q) = fun q => if (true && decide (d.key = q)) = true then some d else g q := by
  funext q
  by_cases c : d.key = q
  · simp [c]
  · simp [c]

def EnR (v : Value) (o : List En) : Res := RowK 39 2 v o.length (flatK encP 2 o.toArray).toList
/-- The entries whose keys no delta speaks of. -/
def kpL (g : Gd) (l : List En) : List En := l.filter fun x => (g x.1).isNone
theorem kpL_len (g : Gd) (l : List En) : (kpL g l).length ≤ l.length := List.length_filter_le _ _
theorem kpL_take {g : Gd} {l : List En} {i : Nat} (h : i < l.length) : kpL g (l.take (i + 1)) = kpL g (l.take i) ++ if (g l[i]!.1).isNone = true then [l[i]!] else [] := by
  rw [take_next h]
  unfold kpL
  rw [List.filter_append]
  congr 1
  generalize l[i]! = x
  cases c : (g x.1).isNone
  · simp [List.filter, c]
  · simp [List.filter, c]
theorem enNil {B : Nat} {w0 w : World} {m n : Nat} {g : Gd} (h : Sep B w0 w [MapS m g n]) : Sep B w0 w [MapS m g n, EnR (.slice none 0 0) []] := by
  have h1 : Sep B w0 w [EnR (.slice none 0 0) [], MapS m g n] := by unfold EnR; simpa [flatK] using Sep.nilK (e := 39) (k := 2) h
  exact h1.up1
theorem snocE {B : Nat} {w0 w : World} {l : List Res} {v : Value} {s : List En} {y : En} (h : Sep B w0 w (RowK 39 2 v (s.length + 1) ((flatK encP 2 s.toArray).toList ++ encP y) :: l)) : Sep B w0 w (EnR v (s ++ [y]) :: l) := by
  unfold EnR
  rw [List.length_append, List.length_singleton, flatK_snoc encP 2 encP_len]
  exact h
/-- What has been put together so far: just the entries that no delta speaks of, and those of the deltas that came. -/
structure ApI (l : List En) (g : Gd) (done : List ByteArray) (o : List En) : Prop where
  one : o.Pairwise (fun x y => x.1 ≠ y.1)
  mem : ∀ x, x ∈ o ↔ (x ∈ l ∧ g x.1 = none) ∨ (x.1 ∈ done ∧ ∃ d, g x.1 = some d ∧ d.is = true ∧ x.2 = d.new)
theorem ApI.zero {l : List En} {g : Gd} (h : Rg l) : ApI l g [] (kpL g l) := by
  refine ⟨(h.up.imp fun e => ltK_ne e).sublist List.filter_sublist, fun x => ?_⟩
  unfold kpL
  rw [List.mem_filter]
  simp
theorem ApI.skip {l o : List En} {g : Gd} {done : List ByteArray} {k : ByteArray} {d : Dl} (h : ApI l g done o) (hg : g k = some d) (hi : d.is = false) : ApI l g (k :: done) o := by
  refine ⟨h.one, fun x => ?_⟩
  rw [h.mem]
  constructor
  · rintro (e | ⟨e1, e2⟩)
    · exact .inl e
    · exact .inr ⟨List.mem_cons_of_mem _ e1, e2⟩
  · rintro (e | ⟨e1, d', e2, e3, e4⟩)
    · exact .inl e
    · rcases List.mem_cons.1 e1 with e | e
      · rw [e, hg] at e2
        cases e2
        rw [hi] at e3
        cases e3
      · exact .inr ⟨e, d', e2, e3, e4⟩
theorem ApI.put {l o : List En} {g : Gd} {done : List ByteArray} {k : ByteArray} {d : Dl} (h : ApI l g done o) (hg : g k = some d) (hn : k ∉ done) (hi : d.is = true) : ApI l g (k :: done) (o ++ [(k, d.new)]) := by
  refine ⟨List.pairwise_append.2 ⟨h.one, List.pairwise_singleton _ _, fun x hx y hy e => ?_⟩, fun x => ?_⟩
  · rw [List.mem_singleton.1 hy] at e
    rcases (h.mem x).1 hx with ⟨_, c⟩ | ⟨c, _⟩
    · rw [e, hg] at c; cases c
    · rw [e] at c; exact hn c
  · rw [List.mem_append, h.mem, List.mem_singleton]
    constructor
    · rintro ((e | ⟨e1, e2⟩) | e)
      · exact .inl e
      · exact .inr ⟨List.mem_cons_of_mem _ e1, e2⟩
      · rw [e]; exact .inr ⟨List.mem_cons_self .., d, hg, hi, rfl⟩
    · rintro (e | ⟨e1, d', e2, e3, e4⟩)
      · exact .inl (.inl e)
      · rcases List.mem_cons.1 e1 with e | e
        · right
          rw [e, hg] at e2
          cases e2
          exact Prod.ext e e4
        · exact .inl (.inr ⟨e, d', e2, e3, e4⟩)
/-- Sorted, it is the document's list. -/
theorem ApI.end {l o s : List En} {ds : List Dl} {done : List ByteArray} (hl : Rg l) (h : ApI l (lsD ds) done o) (hd : ∀ k, (lsD ds k).isSome = true → k ∈ done) (hp : s.Perm o) (hs : s.Pairwise (fun x y : En => ltK y.1 x.1 = false)) : s = apL l ds := by
  have hne : s.Pairwise (fun x y => x.1 ≠ y.1) := (hp.pairwise_iff (fun hxy => hxy.symm)).2 h.one
  have mem : ∀ x, x ∈ s ↔ InD l (lsD ds) x := fun x => by
    rw [hp.mem_iff, h.mem]
    unfold InD
    cases hg : lsD ds x.1 with
    | none => simp
    | some d => simp [hd x.1 (by rw [hg]; rfl)]
  refine Rg.ext ⟨?_, fun x hx => ?_⟩ (apL_rg hl) fun x => by rw [mem, apL_mem]
  · exact (List.pairwise_and_iff.2 ⟨hs, hne⟩).imp fun hxy => ltK_of_not hxy.1 fun e => hxy.2 e.symm
  · exact (apL_rg (ds := ds) hl).may x (apL_mem.2 ((mem x).1 hx))
theorem ownBase2 {B : Nat} {w0 w : World} {l : List Res} {v : Value} {o : List En} (h : Sep B w0 w (EnR v o :: l)) : OwnP B w v o := by
  obtain ⟨_, _, Y, ⟨_, X, Z, ha, _, _, hy⟩, hY⟩ := h
  refine ⟨ha.1.1, ?_⟩
  rcases ha.1.2 with h1 | ⟨g, cap, cur, h1, _, h3⟩
  · exact .inl h1
  · refine .inr ⟨g, cap, cur, h1, ?_, h3⟩
    exact hY g ((hy g).2 (.inl ((ha.2 g).2 (by rw [h1]; rfl))))
theorem mapMore {B : Nat} {w0 w : World} {l : List Res} {m n : Nat} {g : Gd} (h : Sep B w0 w (MapS m g n :: l)) : Sep B w0 w (MapS m g (n + 1) :: l) :=
  h.step (good_mapS _ _ _) fun X hX => ⟨X, ⟨hX.1.imp fun D hD => ⟨hD.1.mono (Nat.le_succ _), hD.2⟩, hX.2⟩, Turn.refl _ _, fun k hk => .inl hk⟩
set_option maxRecDepth 100000 in
theorem makeS (w : World) : (Instr.makeMap 63 none).run Tryz.prog w = .ok (.map (some w.heap.size)) (w.alloc (.map #[] 0)) := by kernel_rfl
set_option maxRecDepth 100000 in
set_option maxHeartbeats 4000000 in
theorem apply_any (vl vd : Value) (l : List En) (ds : List Dl) (w : World) (hL : Row encP 2 w vl l) (hD : Row encD 5 w vd ds) (hl : l.length ≤ 10000) (hl2 : ds.length ≤ 10000) (hk : ∀ d ∈ ds, d.key.size ≤ maxLen) (hk2 : ∀ x ∈ l, x.1.size ≤ maxLen) :
    Calls Tryz.prog 11 #[vl, vd] w (Gv w (apP l ds)) := by
  have C1 : Hid _ := leafRight_c vl l w hL (by omega)
  have HL : Hid (Row encP 2 w vl l) := hL
  cases hr : rgB l with
  | false =>
    have E : Hid (apP l ds = l) := by show _ = _; unfold apP; rw [if_neg (by rw [hr]; simp)]
    rw [hr] at C1
    have C2 : Hid (∀ u, Below w.heap.size w u → _) := fun u (h : Below w.heap.size w u) => clone_any vl l u (Row.to HL.out h (Nat.le_refl _)) (by omega)
    obtain ⟨ao, c, rfl, _⟩ := Row.shape hL
    obtain ⟨ao2, c2, rfl, _⟩ := hD
    clear hL hr
    go_enter Tryz.func11, Tryz.ntmps11
    go_wp2_with (go_at_call 15; refine Calls.mono C1.out ?_; rintro e w1 ⟨rfl, hb1⟩)
    have CZ : Hid _ := C2.out w1 hb1
    go_wp2_with (go_at_call 20; refine Calls.mono CZ.out ?_; rintro e w2 ⟨v2, rfl, o2, b2⟩)
    go_ret
    rw [E.out]
    exact ⟨_, rfl, o2.mono hb1.size, hb1.trans (b2.mono hb1.size)⟩
  | true =>
    have E : Hid (apP l ds = apL l ds) := by show _ = _; unfold apP; rw [if_pos hr]
    have HG : Hid (Rg l) := rg_of hr
    rw [hr] at C1
    obtain ⟨ao, c, rfl, h1, h2, h3⟩ := id hL
    obtain ⟨ao2, c2, rfl, g1, g2, g3⟩ := hD
    have H3 : Aside (l ≠ [] → ∃ b off, ao = some ⟨b, off, none⟩ ∧ b < w.heap.size ∧ CellsK encP 2 w b off l) := h3
    have G3 : Aside (ds ≠ [] → ∃ b off, ao2 = some ⟨b, off, none⟩ ∧ b < w.heap.size ∧ CellsK encD 5 w b off ds) := g3
    have HK : Hid (∀ d ∈ ds, d.key.size ≤ maxLen) := hk
    have HK2 : Hid (∀ x ∈ l, x.1.size ≤ maxLen) := hk2
    clear hL hr h3 g3 hk hk2 HL
    have MK := fun u => makeS u
    go_enter Tryz.func11, Tryz.ntmps11
    go_wp2_with (go_at_call 15; refine Calls.mono C1.out ?_; rintro e w1 ⟨rfl, hb1⟩)
    have S1 : Hid (Sep w.heap.size w (w1.alloc (.map #[] 0)) [MapS w1.heap.size (lsD (ds.take 0)) 0]) := addMapS (Sep.nil hb1.size hb1)
    clear C1
    clear MK
    generalize w1.alloc (.map #[] 0) = w2 at *
    generalize w1.heap.size = m at *
    go_loopg [24] ds.length (fun kx s24 wr => ∃ i : Nat, s24 = .int .i64 i ∧ i ≤ ds.length ∧ ds.length - i ≤ kx ∧ Hid (Sep w.heap.size w wr [MapS m (lsD (ds.take i)) i]))
    case atStart => exact ⟨0, rfl, Nat.zero_le _, Nat.le_refl _, S1⟩
    case round =>
      obtain ⟨i, rfl, hi, hki, HS⟩ := hrel
      clear S1
      by_cases hil : i < ds.length
      · have hilz : (i : Int) < (ds.length : Int) := by omega
        obtain ⟨b, off, rfl, hb, x0, x1, x2, x3, x4⟩ := rowD_at G3.out i hil (HS.out.bel)
        have TK : Hid _ := lsD_take hil
        have KM : Hid (ds[i]!.key.size ≤ maxLen) := HK.out _ (bang_mem hil)
        have e1 : wrap64 ((i : Int) + 1) = (i : Int) + 1 := by unfold wrap64; omega
        generalize ds[i]! = d at *
        cases hdi : d.is
        · have OK : okD d = true := by unfold okD; rw [hdi]; rfl
          rw [hdi] at x4
          have SA : Hid (Sep w.heap.size w (wr.alloc (.cells #[.string d.key, .string d.old, .string d.new, .bool d.was, .bool false] 37)) [MapS m (lsD (ds.take i)) i]) := HS.out.alloc _
          obtain ⟨w5, hrun, s5⟩ := putS SA.out KM.out d (by omega)
          rw [putS2] at s5
          have S5 : Hid (Sep w.heap.size w w5 [MapS m (lsD (ds.take (i + 1))) (i + 1)]) := by
            show Sep _ _ _ _
            rw [show lsD (ds.take (i + 1)) = _ from TK.out, OK]
            exact s5
          clear s5 SA HS TK
          unfold dV at hrun
          rw [hdi] at hrun
          go_wp2
          go_roundg (ds.length - (i + 1))
          case measure => omega
          case rel => exact ⟨i + 1, by simp, by omega, Nat.le_refl _, S5⟩
        · rw [hdi] at x4
          cases hmy : mayB d.key d.new
          · have OK : okD d = false := by unfold okD; rw [hdi, hmy]; rfl
            have CC : Hid (∀ u, _) := fun u => check_any d.key d.new u
            unfold chkE at CC
            rw [hmy] at CC
            have S5 : Hid (Sep w.heap.size w (wr.alloc (.cells #[.string d.key, .string d.old, .string d.new, .bool d.was, .bool true] 37)) [MapS m (lsD (ds.take (i + 1))) (i + 1)]) := by
              show Sep _ _ _ _
              rw [show lsD (ds.take (i + 1)) = _ from TK.out, OK]
              simp only [Bool.false_and, Bool.false_eq_true, if_false]
              exact mapMore (HS.out.alloc _)
            clear HS TK
            go_wp2_with (go_at_call 21; refine Calls.mono (CC.out _) ?_; rintro e w3 ⟨rfl, rfl⟩)
            go_roundg (ds.length - (i + 1))
            case measure => omega
            case rel => exact ⟨i + 1, by simp, by omega, Nat.le_refl _, S5⟩
          · have OK : okD d = true := by unfold okD; rw [hdi, hmy]; rfl
            have CC : Hid (∀ u, _) := fun u => check_any d.key d.new u
            unfold chkE at CC
            rw [hmy] at CC
            have SA : Hid (Sep w.heap.size w (wr.alloc (.cells #[.string d.key, .string d.old, .string d.new, .bool d.was, .bool true] 37)) [MapS m (lsD (ds.take i)) i]) := HS.out.alloc _
            obtain ⟨w5, hrun, s5⟩ := putS SA.out KM.out d (by omega)
            rw [putS2] at s5
            have S5 : Hid (Sep w.heap.size w w5 [MapS m (lsD (ds.take (i + 1))) (i + 1)]) := by
              show Sep _ _ _ _
              rw [show lsD (ds.take (i + 1)) = _ from TK.out, OK]
              exact s5
            clear s5 SA HS TK
            unfold dV at hrun
            rw [hdi] at hrun
            go_wp2_with (go_at_call 21; refine Calls.mono (CC.out _) ?_; rintro e w3 ⟨rfl, rfl⟩)
            go_roundg (ds.length - (i + 1))
            case measure => omega
            case rel => exact ⟨i + 1, by simp, by omega, Nat.le_refl _, S5⟩
      · have hilz : ¬ (i : Int) < (ds.length : Int) := by omega
        obtain rfl : i = ds.length := by omega
        have S2 : Hid (Sep w.heap.size w wr [MapS m (lsD ds) ds.length]) := by
          have := HS.out
          rw [List.take_length] at this
          exact this
        clear HS G3 HK hki
        go_wp2
        go_loopg [8, 46] l.length (fun kx s8 s46 wr => ∃ (i : Nat) (ao3 : Option Addr) (c3 : Nat), s8 = .slice ao3 (kpL (lsD ds) (l.take i)).length c3 ∧ s46 = .int .i64 i ∧ i ≤ l.length ∧ l.length - i ≤ kx ∧ Hid (Sep w.heap.size w wr [MapS m (lsD ds) ds.length, EnR (.slice ao3 (kpL (lsD ds) (l.take i)).length c3) (kpL (lsD ds) (l.take i))]))
        case atStart => exact ⟨0, none, 0, rfl, rfl, Nat.zero_le _, Nat.le_refl _, enNil S2.out⟩
        case round =>
          obtain ⟨i, ao3, c3, rfl, rfl, hi, hki, HS⟩ := hrel
          clear S2
          by_cases hil : i < l.length
          · have hilz : (i : Int) < (l.length : Int) := by omega
            obtain ⟨b, off, rfl, hb, x0, x1⟩ := row_at H3.out i hil (HS.out.bel)
            have KM : Hid (l[i]!.1.size ≤ maxLen) := HK2.out _ (bang_mem hil)
            have TK : Hid (kpL (lsD ds) (l.take (i + 1)) = kpL (lsD ds) (l.take i) ++ if (lsD ds l[i]!.1).isNone = true then [l[i]!] else []) := kpL_take hil
            have e1 : wrap64 ((i : Int) + 1) = (i : Int) + 1 := by unfold wrap64; omega
            have hlo : (kpL (lsD ds) (l.take i)).length < 1000000 := by
              have := kpL_len (lsD ds) (l.take i)
              rw [List.length_take] at this
              omega
            generalize l[i]! = x at *
            have SA : Hid (Sep w.heap.size w (wr.alloc (.cells #[.string x.1, .string x.2] 39)) [MapS m (lsD ds) ds.length, EnR (.slice ao3 (kpL (lsD ds) (l.take i)).length c3) (kpL (lsD ds) (l.take i))]) := HS.out.alloc _
            have LK := lookS SA.out KM.out
            clear HS
            cases hg : lsD ds x.1 with
            | some d =>
              rw [hg] at LK TK
              simp only [Option.getD, Option.isSome] at LK
              unfold dV at LK
              have TN : Hid (kpL (lsD ds) (l.take (i + 1)) = kpL (lsD ds) (l.take i)) := by
                have := TK.out
                simp only [Option.isNone, Bool.false_eq_true, if_false, List.append_nil] at this
                exact this
              clear TK hg
              go_wp2
              go_roundg (l.length - (i + 1))
              case measure => omega
              case rel =>
                refine ⟨i + 1, ao3, c3, ?_, by simp, by omega, Nat.le_refl _, ?_⟩
                · rw [TN.out]
                · show Sep _ _ _ _
                  rw [TN.out]
                  exact SA.out.alloc _
            | none =>
              rw [hg] at LK TK
              simp only [Option.getD, Option.isSome] at LK
              unfold dV d0 at LK
              have TN : Hid (kpL (lsD ds) (l.take (i + 1)) = kpL (lsD ds) (l.take i) ++ [x]) := by
                have := TK.out
                simp only [Option.isNone, if_true] at this
                exact this
              clear TK hg
              generalize kpL (lsD ds) (l.take i) = o at *
              have x0' : wr.cell? ⟨b, off + i * 2, none⟩ = some (.string x.1) := x0
              have SB : Hid (Sep w.heap.size w (((wr.alloc (.cells #[.string x.1, .string x.2] 39)).alloc (.cells #[.string ⟨#[]⟩, .string ⟨#[]⟩, .string ⟨#[]⟩, .bool false, .bool false] 37)).alloc (.cells #[.string x.1, .string x.2] 39)) (RowK 39 2 (.slice ao3 o.length c3) o.length (flatK encP 2 o.toArray).toList :: Blk (wr.heap.size + 1 + 1) (.cells #[.string x.1, .string x.2] 39) :: MapS m (lsD ds) ds.length :: [])) := by
                have := (SA.out.alloc (.cells #[.string ⟨#[]⟩, .string ⟨#[]⟩, .string ⟨#[]⟩, .bool false, .bool false] 37)).addBlk (.cells #[.string x.1, .string x.2] 39)
                simp only [World.size_alloc] at this
                exact Sep.pk [_, _] this
              have HNW : Hid _ := newsAt (news := encP x) SB.out.up1.blk
              clear SA
              go_wp2_with (at_builtin; refine appK rfl rfl infoPair Tryz.underlying22 rfl (by decide) (by decide) _ rfl SB.out rfl HNW.out rfl (encP_one x) hlo ?_; intro ao5 c5 w5 s5; have S5 : Hid (Sep w.heap.size w w5 [MapS m (lsD ds) ds.length, EnR (.slice ao5 (o.length + 1) c5) (o ++ [x])]) := Sep.front [_, _] (l2 := [_]) (Sep.pk [_, _] (snocE s5)); clear s5 SB HNW)
              go_roundg (l.length - (i + 1))
              case measure => omega
              case rel =>
                refine ⟨i + 1, ao5, c5, by rw [TN.out, List.length_append, List.length_singleton], by simp, by omega, Nat.le_refl _, ?_⟩
                show Sep _ _ _ _
                rw [TN.out, List.length_append, List.length_singleton]
                exact S5.out
          · have hilz : ¬ (i : Int) < (l.length : Int) := by omega
            obtain rfl : i = l.length := by omega
            have SM : Hid (Sep w.heap.size w wr [MapS m (lsD ds) ds.length, EnR (.slice ao3 (kpL (lsD ds) l).length c3) (kpL (lsD ds) l)]) := by
              have := HS.out
              rw [List.take_length] at this
              exact this
            rw [List.take_length]
            have hkl : (kpL (lsD ds) l).length ≤ l.length := kpL_len _ _
            clear HS hki
            obtain ⟨w6, cnt, hrg, S6, hcnt⟩ := rangeS SM.out
            have S6 : Hid (Sep w.heap.size w w6 [RngS m wr.heap.size (lsD ds) [] cnt, EnR (.slice ao3 (kpL (lsD ds) l).length c3) (kpL (lsD ds) l)]) := S6
            have I0 : Hid (ApI l (lsD ds) [] (kpL (lsD ds) l)) := ApI.zero HG.out
            clear SM H3 HK2
            generalize kpL (lsD ds) l = o at *
            go_wp2
            clear hrg
            generalize wr.heap.size = r at *
            go_loopg [8] cnt (fun kx s8 wr => ∃ (o' : List En) (done : List ByteArray) (ao4 : Option Addr) (c4 n4 : Nat), s8 = .slice ao4 o'.length c4 ∧ n4 ≤ kx ∧ o'.length + n4 ≤ o.length + cnt ∧ Hid (Sep w.heap.size w wr [RngS m r (lsD ds) done n4, EnR (.slice ao4 o'.length c4) o']) ∧ Hid (ApI l (lsD ds) done o'))
            case atStart => exact ⟨o, [], ao3, c3, cnt, rfl, Nat.le_refl _, Nat.le_refl _, S6, I0⟩
            case round =>
              obtain ⟨o', done, ao4, c4, n4, rfl, hn4, hol, HS, HI⟩ := hrel
              clear S6 I0
              rcases nextS HS.out 0 with ⟨hall, hnx⟩ | ⟨k, d, w7, n7, hgk, hnd, hnx, s7, hn7, hen⟩
              · have HA : Hid (∀ k, (lsD ds k).isSome = true → k ∈ done) := hall
                clear hall
                have HO : Hid (Own encP 2 w.heap.size wr (.slice ao4 o'.length c4) o') := OwnP.own (ownBase2 HS.out.up1)
                have CS : Hid _ := sortE_any ao4 o'.length c4 w.heap.size o' wr (by omega) HO.out HS.out.size
                have hbw : Below w.heap.size w wr := HS.out.bel
                clear HS HO
                go_wp2_with (go_at_call 22; refine Calls.mono CS.out ?_; rintro e w9 ⟨rfl, s, sp, ss, so, sb⟩)
                go_ret
                rw [E.out]
                have es : s = apL l ds := ApI.end HG.out HI.out HA.out sp ss
                subst es
                exact ⟨_, rfl, so, hbw.trans sb⟩
              · have S7 : Hid (Sep w.heap.size w w7 [RngS m r (lsD ds) (k :: done) n7, EnR (.slice ao4 o'.length c4) o']) := s7
                clear s7 HS
                unfold dV at hnx hen
                have HGK : Hid (lsD ds k = some d) := hgk
                have HND : Hid (k ∉ done) := hnd
                have KK : Hid (d.key = k) := (lsD_some hgk).2.2
                clear hgk hnd
                cases hdi : d.is
                · rw [hdi] at hnx hen
                  have I7 : Hid (ApI l (lsD ds) (k :: done) o') := HI.out.skip HGK.out hdi
                  clear HI HGK HND KK hdi
                  go_wp2
                  go_roundg n7
                  case measure => omega
                  case rel => exact ⟨o', k :: done, ao4, c4, n7, rfl, Nat.le_refl _, by omega, S7.out.alloc _, I7⟩
                · rw [hdi] at hnx hen
                  have I7 : Hid (ApI l (lsD ds) (k :: done) (o' ++ [(d.key, d.new)])) := by
                    show ApI _ _ _ _
                    rw [KK.out]
                    exact HI.out.put HGK.out HND.out hdi
                  have hlo : o'.length < 1000000 := by omega
                  have SB : Hid (Sep w.heap.size w ((w7.alloc (.cells #[.string d.key, .string d.old, .string d.new, .bool d.was, .bool true] 37)).alloc (.cells #[.string d.key, .string d.new] 39)) (RowK 39 2 (.slice ao4 o'.length c4) o'.length (flatK encP 2 o'.toArray).toList :: Blk (w7.heap.size + 1) (.cells #[.string d.key, .string d.new] 39) :: RngS m r (lsD ds) (k :: done) n7 :: [])) := by
                    have := (S7.out.alloc (.cells #[.string d.key, .string d.old, .string d.new, .bool d.was, .bool true] 37)).addBlk (.cells #[.string d.key, .string d.new] 39)
                    simp only [World.size_alloc] at this
                    exact Sep.pk [_, _] this
                  have HNW : Hid _ := newsAt (news := encP (d.key, d.new)) SB.out.up1.blk
                  clear HI HGK HND KK hdi S7
                  go_wp2_with (at_builtin; refine appK rfl rfl infoPair Tryz.underlying22 rfl (by decide) (by decide) _ rfl SB.out rfl HNW.out rfl (encP_one (d.key, d.new)) hlo ?_; intro ao5 c5 w5 s5; have S5 : Hid (Sep w.heap.size w w5 [RngS m r (lsD ds) (k :: done) n7, EnR (.slice ao5 (o'.length + 1) c5) (o' ++ [(d.key, d.new)])]) := Sep.front [_, _] (l2 := [_]) (Sep.pk [_, _] (snocE s5)); clear s5 SB HNW)
                  go_roundg n7
                  case measure => omega
                  case rel =>
                    refine ⟨o' ++ [(d.key, d.new)], k :: done, ao5, c5, n7, by rw [List.length_append, List.length_singleton], Nat.le_refl _, by rw [List.length_append, List.length_singleton]; omega, ?_, I7⟩
                    rw [List.length_append, List.length_singleton]
                    exact S5

end Go.Proofs.YtljmkajpjjdnhaaGreatDoor.N
