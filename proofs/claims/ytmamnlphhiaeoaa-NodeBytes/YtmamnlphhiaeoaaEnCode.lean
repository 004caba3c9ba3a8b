/-
  The walks of package entry's Encode and Decode.
-/
import Derived.Test.YtmamnlphhiaeoaaEnRef
import Derived.Test.YtmamnlphhiaeoaaCdText
namespace Go.Proofs.Ytmamnlphhiaeoaa
open Go.Shelf Go.RowKit Go.Lib Go.Sort

/-- A row of texts. -/
def encS (s : ByteArray) : List Value := [.string s]
theorem encS_len (s : ByteArray) : (encS s).length = 1 := rfl
theorem encS_one (s : ByteArray) : ∀ v ∈ encS s, v.oneCell' = true := fun v hv => by simp [encS] at hv; subst hv; rfl
theorem infoStr : (Try.prog.info? 9).map (fun i => (i.zero, i.size, i.bytes)) = some (some (.string ⟨#[]⟩), 1, 16) := by kernel_rfl

abbrev OwnS (base : Nat) (W : World) (v : Value) (l : List ByteArray) : Prop := W.ownsRow base 9 1 v l.length (flatK encS 1 l.toArray).toList

theorem OwnS.empty (base : Nat) (W : World) : OwnS base W (.slice none 0 0) [] := by unfold OwnS; simpa [flatK] using World.ownsRow_nil W base 9 1

theorem flat_two (x y : ByteArray) : (flatK encS 1 [x, y].toArray).toList = [.string x, .string y] := by
  have h := flatK_append encS 1 encS_len [x, y] []
  have h1 := flatK_snoc encS 1 encS_len [] x
  have h2 := flatK_snoc encS 1 encS_len [x] y
  rw [List.nil_append] at h1
  rw [show [x] ++ [y] = [x, y] from rfl, h1] at h2
  rw [h2]
  simp [flatK, encS]

/-- Two texts appended. -/
theorem app_two {ops : Array Oper} {rest : List Oper} {o : Oper} {a : Act} {Q : Exit → Act → World → Prop} {w : World} (hgd : o.guard = .none) (s x : Operand)
    (ho : o.op = .call { callee := .builtin .append, args := #[s, x], argTypes := #[24, 24] }) (base : Nat) (v : Value) (l : List ByteArray) (hs : a.eval s = v) (hown : OwnS base w v l)
    (q : Nat) (y z : ByteArray) (hx : a.eval x = .slice (some ⟨q, 0, none⟩) 2 2) (hq : Cl w q #[.string y, .string z] 9) (hl : l.length + 2 < 1000000) (hbase : base ≤ w.heap.size) (lm : List ByteArray) (hlm : l ++ [y, z] = lm)
    (h : ∀ ao n c w', OwnS base w' (.slice ao n c) lm → (∀ w0, Below base w0 w → Below base w0 w') → wpList Try.prog ops Q rest (a.put o.dst (.slice ao n c)) w') : wpList Try.prog ops Q (o :: rest) a w := by
  subst hlm
  obtain ⟨i0, hi, hz0, hz1, hz2⟩ := info_parts infoStr
  refine wpList_append_own w hgd s x 24 ho base 9 i0 _ 1 16 Try.underlying24 hi hz0 hz1 hz2 rfl (by decide) v _ _ hs hown ⟨q, 0, none⟩ 2 2 [.string y, .string z] hx rfl ?_ (fun u hu => by simp at hu; rcases hu with rfl | rfl <;> rfl) (by unfold maxLen; omega) (by omega) hbase ?_
  · intro j u hj
    rw [Go.WideShapes.add_plain, Nat.zero_add, hq.cell j, ← hj]
    match j with
    | 0 => rfl
    | 1 => rfl
    | j + 2 => simp
  · intro v' w' g1 g2 _
    obtain ⟨ao', n', c', rfl⟩ : ∃ ao n c, v' = .slice ao n c := by
      rcases g1.2 with ⟨h, _⟩ | ⟨g, cap, cur, h, _⟩
      · exact ⟨_, _, _, h⟩
      · exact ⟨_, _, _, h⟩
    refine h _ _ _ _ ?_ (fun w0 hb => hb.grown g2 hbase fun k hk => ?_)
    · show w'.ownsRow base 9 1 _ (l ++ [y, z]).length (flatK encS 1 (l ++ [y, z]).toArray).toList
      rw [List.length_append, flatK_append encS 1 encS_len, flat_two]
      exact g1
    · rcases row_of_owns hown with hr | ⟨r, hr, hle⟩
      · rw [hr] at hk; cases hk
      · rw [hr] at hk; cases hk; exact hle

/-- The texts that Encode joins. -/
def ptS : List En → List ByteArray
  | [] => []
  | x :: l => ⟨(txL x.1).toArray⟩ :: ⟨(txL x.2).toArray⟩ :: ptS l
theorem ptS_app (l m : List En) : ptS (l ++ m) = ptS l ++ ptS m := by
  induction l with
  | nil => rfl
  | cons x l ih => simp [ptS, ih]
theorem ptS_snoc {l : List En} {i : Nat} (h : i < l.length) : ptS (l.take (i + 1)) = ptS (l.take i) ++ [⟨(txL l[i]!.1).toArray⟩, ⟨(txL l[i]!.2).toArray⟩] := by
  rw [take_next h, ptS_app]; rfl
theorem ptS_len (l : List En) : (ptS l).length = 2 * l.length := by
  induction l with
  | nil => rfl
  | cons x l ih => simp [ptS, ih]; omega
theorem cat_ptS (l : List En) : cat (ptS l) = enL l := by
  induction l with
  | nil => rfl
  | cons x l ih =>
    unfold cat at ih ⊢
    simp [ptS, enL, enE, ih]

theorem tx_may {s : ByteArray} (h : s.size ≤ 255) : textS s = txL s ∧ textE s = 0 := by
  unfold textS textE txL
  rw [if_pos h, if_pos h]
  exact ⟨rfl, rfl⟩

/-- Join of a row of texts. -/
theorem join_own {base : Nat} {w : World} {v : Value} {xs : List ByteArray} (h : OwnS base w v xs) (hN : xs.length ≤ 1000000) (hlen : (cat xs).length ≤ 140737488355328) :
    Calls Try.prog 56 #[v] w fun r w' => r = .returned (.string ⟨(cat xs).toArray⟩) ∧ Below w.heap.size w w' := by
  obtain ⟨ao, c, rfl, h1, h2, h3⟩ := (own_of_owns (enc := encS) (by decide) h).row
  by_cases hne : xs = []
  · subst hne
    exact (join_none ao c w).mono fun _ _ ⟨a, b⟩ => ⟨a, by rw [b]; exact Below.refl _ _⟩
  · obtain ⟨b, off, rfl, hb, hc⟩ := h3 hne
    refine join_any b off c xs.length xs w (fun j x hj => ?_) hb rfl (by omega) h1 hlen
    obtain ⟨hj1, hj2⟩ := List.getElem?_eq_some_iff.1 hj
    rw [hc j (by omega), get_flatK _ _ _ _ (by simpa using hj1)]
    rw [Nat.div_one, Nat.mod_one, getElem!_pos xs.toArray j (by simpa using hj1)]
    simp [encS, hj2]

theorem OwnS.below {base : Nat} {w w' : World} {v : Value} {l : List ByteArray} (h : OwnS base w v l) (hb : Below w.heap.size w w') : OwnS base w' v l := ownsRow_below h hb

set_option maxHeartbeats 4000000 in
set_option maxRecDepth 100000 in
theorem encode_any (v : Value) (l : List En) (w : World) (h : Row encP 2 w v l) (hl : l.length ≤ 100000) :
    Calls Try.prog 36 #[v] w fun e w' => e = .returned (.tuple #[.string (ecS l), .int .i64 (ecE l)]) ∧ Below w.heap.size w w' := by
  have C : Hid _ := right_any v l w h (by omega)
  have H : Aside (Row encP 2 w v l) := h
  obtain ⟨ao, cap, rfl, hcap⟩ := h.shape
  clear h
  unfold ecS ecE
  cases hr : rgB l with
  | false =>
    rw [if_neg (by simp), if_neg (by simp)]
    rw [hr] at C
    go_enter Try.func36, Try.ntmps36
    go_wp2_with (go_at_call 54; refine Calls.mono C.out ?_; rintro e w1 ⟨rfl, hb⟩)
    go_ret2
    exact ⟨rfl, hb⟩
  | true =>
    rw [if_pos rfl, if_pos rfl]
    rw [hr] at C
    have RG : Hid (Rg l) := rg_of hr
    clear hr
    go_enter Try.func36, Try.ntmps36
    go_upto_region 3 with (go_at_call 54; refine Calls.mono C.out ?_; rintro e w1 ⟨rfl, hb⟩)
    have B1 : Hid (Below w.heap.size w w1) := hb
    have H1 : Aside (Row encP 2 w1 (.slice ao l.length cap) l) := H.out.below hb
    clear hb C H
    obtain ⟨ao1, cap1, e1, h1, h2, h3⟩ := H1.out
    cases e1
    have H3 : Aside (l ≠ [] → ∃ b off, ao = some ⟨b, off, none⟩ ∧ b < w1.heap.size ∧ CellsK encP 2 w1 b off l) := h3
    clear h3 H1
    go_wp2
    go_loopg [4, 16] l.length (fun kx s4 s16 wr => ∃ (i : Nat) (ao' : Option Addr) (n' c' : Nat) (out : List ByteArray), s4 = .slice ao' n' c' ∧ s16 = .int .i64 i ∧ i ≤ l.length ∧ l.length - i ≤ kx ∧ out.length = 2 * i ∧ Hid (ptS (l.take i) = out) ∧ Aside (OwnS w1.heap.size wr (.slice ao' n' c') out) ∧ Hid (Below w1.heap.size w1 wr))
    case atStart => exact ⟨0, none, 0, 0, [], rfl, rfl, Nat.zero_le _, Nat.le_refl _, rfl, rfl, OwnS.empty _ _, Below.refl _ _⟩
    case round =>
      obtain ⟨i, ao', n', c', out, rfl, rfl, hi, hki, hol, HD, HO, HB⟩ := hrel
      by_cases hil : i < l.length
      · have hilz : (i : Int) < (l.length : Int) := by omega
        obtain ⟨b, off, rfl, hb, x1, x2⟩ := row_at H3.out i hil HB.out
        have T : Hid _ := ptS_snoc hil
        have hm := mayB_iff.1 (RG.out.may _ (bang_mem hil))
        rw [HD.out] at T
        generalize l[i]! = x at *
        obtain ⟨t1, t2⟩ := tx_may (s := x.1) (by omega)
        obtain ⟨t3, t4⟩ := tx_may (s := x.2) (by omega)
        have B2 : Hid (Below w1.heap.size w1 (wr.alloc (.cells #[.string x.1, .string x.2] 56))) := HB.out.alloc HB.out.size _
        have O2 : Aside (OwnS w1.heap.size (wr.alloc (.cells #[.string x.1, .string x.2] 56)) (.slice ao' n' c') out) := HO.out.below ((Below.refl _ wr).alloc (Nat.le_refl _) _)
        have K2 : Hid (Cl (wr.alloc (.cells #[.string x.1, .string x.2] 56)) wr.heap.size #[.string x.1, .string x.2] 56) := Cl.new _ _ _
        clear HO HB HD
        go_upto_region 7 with fail
        generalize wr.alloc (.cells #[.string x.1, .string x.2] 56) = W at *
        generalize wr.heap.size = p at *
        obtain ⟨y1, y2⟩ := K2.out.two
        have plt := K2.out.lt
        have C1 : Hid _ := text_any x.1 W (by unfold maxLen; omega)
        rw [t1, t2] at C1
        go_upto_region 8 with (go_at_call 55; refine Calls.mono C1.out ?_; rintro e w3 ⟨rfl, hb3⟩)
        have B3 : Hid (Below w1.heap.size w1 w3) := B2.out.trans (hb3.mono B2.out.size)
        have O3 : Aside (OwnS w1.heap.size w3 (.slice ao' n' c') out) := O2.out.below hb3
        have K3 : Hid (Cl w3 p #[.string x.1, .string x.2] 56) := K2.out.on hb3
        clear B2 O2 K2 hb3 C1 y1 y2 plt x1 x2
        obtain ⟨y1, y2⟩ := K3.out.two
        have plt := K3.out.lt
        have C2 : Hid _ := text_any x.2 w3 (by unfold maxLen; omega)
        rw [t3, t4] at C2
        go_upto_region 9 with (go_at_call 55; refine Calls.mono C2.out ?_; rintro e w4 ⟨rfl, hb4⟩)
        have B4 : Hid (Below w1.heap.size w1 w4) := B3.out.trans (hb4.mono B3.out.size)
        have O4 : Aside (OwnS w1.heap.size w4 (.slice ao' n' c') out) := O3.out.below hb4
        clear B3 O3 K3 hb4 C2 y1 y2 plt t1 t2 t3 t4 hm
        obtain ⟨o2, ho2⟩ : ∃ o2, ptS (l.take (i + 1)) = o2 := ⟨_, rfl⟩
        have T2 : Hid (out ++ [(⟨(txL x.1).toArray⟩ : ByteArray), ⟨(txL x.2).toArray⟩] = o2) := by show _ = _; rw [← T.out, ho2]
        have l2 : o2.length = 2 * (i + 1) := by rw [← T2.out]; simp; omega
        have HD2 : Hid (ptS (l.take (i + 1)) = o2) := ho2
        clear T ho2
        generalize (⟨(txL x.1).toArray⟩ : ByteArray) = p1 at *
        generalize (⟨(txL x.2).toArray⟩ : ByteArray) = p2 at *
        have B5 : Hid (Below w1.heap.size w1 (w4.alloc (.cells #[.string p1, .string p2] 9))) := B4.out.alloc B4.out.size _
        have O5 : Aside (OwnS w1.heap.size (w4.alloc (.cells #[.string p1, .string p2] 9)) (.slice ao' n' c') out) := O4.out.below ((Below.refl _ w4).alloc (Nat.le_refl _) _)
        have K5 : Hid (Cl (w4.alloc (.cells #[.string p1, .string p2] 9)) w4.heap.size #[.string p1, .string p2] 9) := Cl.new _ _ _
        have hsz := B5.out.size
        clear O4 B4
        go_wp2_with (at_builtin; refine app_two rfl _ _ rfl w1.heap.size _ out rfl O5.out _ p1 p2 rfl K5.out (by omega) hsz o2 T2.out ?_)
        intro a6 n6 c6 w6 P6 Q6
        have O7 : Aside (OwnS w1.heap.size w6 (.slice a6 n6 c6) o2) := P6
        have B7 : Hid (Below w1.heap.size w1 w6) := Q6 _ B5.out
        clear P6 Q6 O5 K5 B5 hsz T2
        go_wp2
        go_roundg (l.length - (i + 1))
        case measure => omega
        case rel => exact ⟨i + 1, a6, n6, c6, o2, rfl, by go_num, by omega, Nat.le_refl _, l2, HD2, O7, B7⟩
      · have hilz : ¬ (i : Int) < (l.length : Int) := by omega
        obtain rfl : i = l.length := by omega
        rw [List.take_length] at HD
        have hb2 : szL l ≤ l.length * 58 := szL_bound fun x hx => by
          have := mayB_iff.1 (RG.out.may x hx); unfold szE; omega
        have CJ : Hid _ := join_own HO.out (by omega) (by rw [← HD.out, cat_ptS, enL_length]; omega)
        rw [← HD.out, cat_ptS] at CJ
        clear HO HD
        go_wp2_with (go_at_call 56; refine Calls.mono CJ.out ?_; rintro e w6 ⟨rfl, hb6⟩)
        go_ret2
        exact ⟨rfl, B1.out.trans ((HB.out.trans (hb6.mono HB.out.size)).mono B1.out.size)⟩

end Go.Proofs.Ytmamnlphhiaeoaa
