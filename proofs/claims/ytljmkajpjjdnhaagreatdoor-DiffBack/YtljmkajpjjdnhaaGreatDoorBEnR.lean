/-
  Texts of elder layers, joined: EnRef, EnCode.
-/
import Derived.Test.YtljmkajpjjdnhaaGreatDoorBEn
namespace Go.Proofs.YtljmkajpjjdnhaaGreatDoor.N

/-! EnRef -/
section
open Go.Shelf Go.RowKit Go.Lib Go.Sort

theorem str_no {a b : ByteArray} (h : a ≠ b) : (a.toList == b.toList) = false := by rw [str_eq]; exact decide_eq_false h

set_option maxHeartbeats 2000000 in
set_option maxRecDepth 100000 in
theorem same_any (va vb : Value) (a b : List En) (w : World) (ha : Row encP 2 w va a) (hb : Row encP 2 w vb b) (hl : a.length ≤ 1000000) (hl2 : b.length ≤ 1000000) :
    Calls Tryz.prog 10 #[va, vb] w fun e w' => e = .returned (.bool (decide (a = b))) ∧ Below w.heap.size w w' := by
  obtain ⟨ao, ca, rfl, a1, a2, a3⟩ := ha
  obtain ⟨bo, cb, rfl, b1, b2, b3⟩ := hb
  have A3 : Aside (a ≠ [] → ∃ b off, ao = some ⟨b, off, none⟩ ∧ b < w.heap.size ∧ CellsK encP 2 w b off a) := a3
  have B3 : Aside (b ≠ [] → ∃ b' off, bo = some ⟨b', off, none⟩ ∧ b' < w.heap.size ∧ CellsK encP 2 w b' off b) := b3
  clear a3 b3
  by_cases hlen : a.length = b.length
  · have HL : Hid (a.length = b.length) := hlen
    have hle1 : a.length ≤ b.length := by omega
    have hle2 : b.length ≤ a.length := by omega
    have hneq : ((a.length : Int) != (b.length : Int)) = false := by simp; omega
    clear hlen
    go_enter Tryz.func10, Tryz.ntmps10
    go_wp2
    go_loopg [5] a.length (fun kx s5 wr => ∃ (i : Nat), s5 = .int .i64 i ∧ i ≤ a.length ∧ a.length - i ≤ kx ∧ Hid (GR w wr) ∧ Hid (a.take i = b.take i))
    case atStart => exact ⟨0, rfl, Nat.zero_le _, Nat.le_refl _, GR.refl _, by simp [Hid]⟩
    case round =>
      obtain ⟨i, rfl, hi, hki, HG, HN⟩ := hrel
      by_cases hil : i < a.length
      · have hilz : (i : Int) < (a.length : Int) := by omega
        have hilb : i < b.length := by omega
        obtain ⟨ba, oa, rfl, hba, x1, x2⟩ := row_at A3.out i hil HG.out.below
        obtain ⟨bb, ob, rfl, hbb, y1, y2⟩ := row_at B3.out i hilb HG.out.below
        have T : Hid (a.take (i + 1) = a.take i ++ [a[i]!]) := take_next hil
        have T2 : Hid (b.take (i + 1) = b.take i ++ [b[i]!]) := take_next hilb
        generalize a[i]! = x at *
        generalize b[i]! = y at *
        have HD : Hid (GR w wr.drew) := HG.out.drew
        by_cases he : x = y
        · have E := fun W => neqP (x := x) (y := y) (decide_eq_true he) W
          have G := gdP x y
          have HE : Hid (x = y) := he
          clear he
          simp only [Bool.not_true] at E
          go_wp2_with fail
          go_region
          all_goals go_wp2
          all_goals go_roundg (a.length - (i + 1))
          case measure => omega
          case rel =>
            refine ⟨i + 1, by go_num, by omega, Nat.le_refl _, HD, ?_⟩
            show _ = _
            rw [T.out, T2.out, HN.out, HE.out]
        · have E := fun W => neqP (x := x) (y := y) (decide_eq_false he) W
          have G := gdP x y
          have HE : Hid (x ≠ y) := he
          clear he
          simp only [Bool.not_false] at E
          go_wp2_with fail
          go_region
          all_goals go_wp2
          all_goals go_ret
          all_goals
            refine ⟨ret_b (decide_eq_false fun h => HE.out ?_).symm, HD.out.below⟩
            subst h
            have := T.out.symm.trans T2.out
            simpa using this
      · have hilz : ¬ (i : Int) < (a.length : Int) := by omega
        obtain rfl : i = a.length := by omega
        go_wp2
        go_ret
        refine ⟨ret_b (decide_eq_true ?_).symm, HG.out.below⟩
        have := HN.out
        rw [List.take_length, HL.out, List.take_length] at this
        exact this
  · have hneq : ((a.length : Int) != (b.length : Int)) = true := by simp; omega
    have HL : Hid (a.length ≠ b.length) := hlen
    clear hlen
    go_enter Tryz.func10, Tryz.ntmps10
    go_wp2
    go_ret
    exact ⟨ret_b (decide_eq_false fun h => HL.out (by rw [h])).symm, Below.refl _ _⟩


set_option maxHeartbeats 1000000 in
theorem may_any (k v : ByteArray) (w : World) : Calls Tryz.prog 26 #[.string k, .string v] w fun e w' => e = .returned (.bool (mayB k v)) ∧ w = w' := by
  by_cases h1 : (1 : Int) ≤ (k.size : Int)
  · by_cases h2 : (k.size : Int) ≤ 16
    · by_cases h3 : (v.size : Int) ≤ 40
      · have E : Hid (mayB k v = true) := mayB_iff.2 (by omega)
        go_enter Tryz.func26, Tryz.ntmps26
        go_wp2
        go_ret
        exact ⟨ret_b E.out.symm, rfl⟩
      · have E : Hid (mayB k v = false) := by
          show _ = _
          cases e : mayB k v
          · rfl
          · have := mayB_iff.1 e; omega
        go_enter Tryz.func26, Tryz.ntmps26
        go_wp2
        go_ret
        exact ⟨ret_b E.out.symm, rfl⟩
    · have E : Hid (mayB k v = false) := by
        show _ = _
        cases e : mayB k v
        · rfl
        · have := mayB_iff.1 e; omega
      go_enter Tryz.func26, Tryz.ntmps26
      go_wp2
      go_ret
      exact ⟨ret_b E.out.symm, rfl⟩
  · have E : Hid (mayB k v = false) := by
      show _ = _
      cases e : mayB k v
      · rfl
      · have := mayB_iff.1 e; omega
    go_enter Tryz.func26, Tryz.ntmps26
    go_wp2
    go_ret
    exact ⟨ret_b E.out.symm, rfl⟩

theorem may_q (k v : ByteArray) (e : Bool) (he : mayB k v = e) (W : World) : ∀ m, Calls Tryz.prog 26 #[.string k, .string v] (W.drewN m) fun r w' => r = .returned (.bool e) ∧ ∃ m', w' = W.drewN m' := fun m =>
  (may_any k v (W.drewN m)).mono fun _ _ ⟨h1, h2⟩ => ⟨by rw [h1, he], m, h2.symm⟩

set_option maxHeartbeats 4000000 in
set_option maxRecDepth 100000 in
theorem rright_any (v : Value) (l : List En) (w : World) (h : Row encP 2 w v l) (hl : l.length ≤ 9223372036854775807) :
    Calls Tryz.prog 14 #[v] w fun e w' => e = .returned (.bool (rgB l)) ∧ Below w.heap.size w w' := by
  obtain ⟨ao, cap, rfl, h1, h2, h3⟩ := h
  have H3 : Aside (l ≠ [] → ∃ b off, ao = some ⟨b, off, none⟩ ∧ b < w.heap.size ∧ CellsK encP 2 w b off l) := h3
  clear h3
  go_enter Tryz.func14, Tryz.ntmps14
  go_wp2
  go_loopg [3] l.length (fun kx s3 wr => ∃ (i : Nat), s3 = .int .i64 i ∧ i ≤ l.length ∧ l.length - i ≤ kx ∧ Hid (GR w wr) ∧ Hid (∀ j, j < i → okE l j = true))
  case atStart => exact ⟨0, rfl, Nat.zero_le _, Nat.le_refl _, GR.refl _, fun j hj => absurd hj (Nat.not_lt_zero _)⟩
  case round =>
    obtain ⟨i, rfl, hi, hki, HG, HN⟩ := hrel
    by_cases hil : i < l.length
    · have hilz : (i : Int) < (l.length : Int) := by omega
      obtain ⟨b, off, rfl, hb, x1, x2⟩ := row_at H3.out i hil HG.out.below
      obtain ⟨x, hx⟩ : ∃ x, l[i]! = x := ⟨_, rfl⟩
      rw [hx] at x1 x2
      have X : Hid (l[i]! = x) := hx
      clear hx
      cases hm : mayB x.1 x.2
      · have Q1 : Hid _ := may_q x.1 x.2 false hm wr
        have RF : Hid (rgB l = false) := rgB_no i hil (okE_of (b := false) (c := (i == 0 || ltK l[i - 1]!.1 l[i]!.1)) (by rw [X.out]; exact hm) rfl)
        clear HN hm
        go_wp2_with fail
        go_quiet ((go_at_call 26; with_reducible exact Q1.out _))
        go_wp2_with fail
        go_quiet (fail)
        go_wp2
        go_ret
        exact ⟨ret_b RF.out.symm, ((HG.out.drewN _).drewN _).below⟩
      · have Q1 : Hid _ := may_q x.1 x.2 true hm wr
        have M : Hid (mayB x.1 x.2 = true) := hm
        clear hm
        rcases Nat.eq_zero_or_pos i with hi0 | hi0
        · have N2 : Hid (∀ j, j < i + 1 → okE l j = true) := fun j hj => by
            obtain rfl : j = i := by omega
            rw [okE_of (b := true) (c := true) (by rw [X.out]; exact M.out) (by rw [hi0]; rfl)]; rfl
          have hd : decide ((0 : Int) < (i : Int)) = false := by rw [hi0]; decide
          have hd2 : decide (0 < i) = false := by rw [hi0]; decide
          clear HN hi0
          go_wp2_with fail
          go_quiet ((go_at_call 26; with_reducible exact Q1.out _))
          go_wp2_with fail
          go_quiet (fail)
          go_wp2
          go_roundg (l.length - (i + 1))
          case measure => omega
          case rel => exact ⟨i + 1, by go_num, by omega, Nat.le_refl _, HG.out.drewN _, N2⟩
        · obtain ⟨i, rfl⟩ : ∃ i', i = i' + 1 := ⟨i - 1, by omega⟩
          clear hi0
          obtain ⟨b2, off2, e2, hb2, z1, _⟩ := row_at H3.out i (by omega) HG.out.below
          cases e2
          obtain ⟨y, hy⟩ : ∃ y, l[i]! = y := ⟨_, rfl⟩
          rw [hy] at z1
          have Y : Hid (l[i]! = y) := hy
          clear hy
          cases hlt : ltK y.1 x.1
          · have RF : Hid (rgB l = false) := rgB_no (i + 1) hil (okE_of (b := true) (c := false) (by rw [X.out]; exact M.out) (by
              rw [show i + 1 - 1 = i from rfl, X.out, Y.out, hlt]; rfl))
            have hlt2 : Op.bytesLess y.1.toList x.1.toList = false := hlt
            clear HN hlt
            go_wp2_with fail
            go_quiet ((go_at_call 26; with_reducible exact Q1.out _))
            go_wp2_with fail
            go_quiet (fail)
            go_wp2
            go_ret
            exact ⟨ret_b RF.out.symm, ((HG.out.drewN _).drewN _).below⟩
          · have N2 : Hid (∀ j, j < i + 1 + 1 → okE l j = true) := fun j hj => by
              rcases Nat.lt_or_ge j (i + 1) with c | c
              · exact HN.out j c
              · obtain rfl : j = i + 1 := by omega
                rw [okE_of (b := true) (c := true) (by rw [X.out]; exact M.out) (by rw [show i + 1 - 1 = i from rfl, X.out, Y.out, hlt]; simp)]; rfl
            have hlt2 : Op.bytesLess y.1.toList x.1.toList = true := hlt
            clear HN hlt
            go_wp2_with fail
            go_quiet ((go_at_call 26; with_reducible exact Q1.out _))
            go_wp2_with fail
            go_quiet (fail)
            go_wp2
            go_roundg (l.length - (i + 1 + 1))
            case measure => omega
            case rel => exact ⟨i + 1 + 1, by go_num, by omega, Nat.le_refl _, HG.out.drewN _, N2⟩
    · have hilz : ¬ (i : Int) < (l.length : Int) := by omega
      obtain rfl : i = l.length := by omega
      have RT : Hid (rgB l = true) := rgB_yes HN.out
      clear HN
      go_wp2
      go_ret
      exact ⟨ret_b RT.out.symm, HG.out.below⟩

theorem gt_drop {l : List En} {k : ByteArray} {i : Nat} (h : i < l.length) : gtV (l.drop i) k = (if l[i]!.1 = k then l[i]!.2 else gtV (l.drop (i + 1)) k) ∧ fdB (l.drop i) k = (decide (l[i]!.1 = k) || fdB (l.drop (i + 1)) k) := by
  rw [drop_here h]
  exact ⟨rfl, by simp [fdB]⟩

set_option maxHeartbeats 2000000 in
set_option maxRecDepth 100000 in
theorem rget_any (v : Value) (l : List En) (k : ByteArray) (w : World) (h : Row encP 2 w v l) (hl : l.length ≤ 1000000) :
    Calls Tryz.prog 19 #[v, .string k] w fun e w' => e = .returned (.tuple #[.string (gtV l k), .bool (fdB l k)]) ∧ w = w' := by
  obtain ⟨ao, cap, rfl, h1, h2, h3⟩ := h
  have H3 : Aside (l ≠ [] → ∃ b off, ao = some ⟨b, off, none⟩ ∧ b < w.heap.size ∧ CellsK encP 2 w b off l) := h3
  clear h3
  go_enter Tryz.func19, Tryz.ntmps19
  go_wp2
  go_loopg [6] l.length (fun kx s6 wr => ∃ (i : Nat), s6 = .int .i64 i ∧ i ≤ l.length ∧ l.length - i ≤ kx ∧ w = wr ∧ Hid (gtV l k = gtV (l.drop i) k ∧ fdB l k = fdB (l.drop i) k))
  case atStart => exact ⟨0, rfl, Nat.zero_le _, Nat.le_refl _, rfl, rfl, rfl⟩
  case round =>
    obtain ⟨i, rfl, hi, hki, rfl, HN⟩ := hrel
    by_cases hil : i < l.length
    · have hilz : (i : Int) < (l.length : Int) := by omega
      obtain ⟨b, off, rfl, hb, x1, x2⟩ := row_at H3.out i hil (Below.refl _ w)
      have T : Hid _ := gt_drop (k := k) hil
      generalize l[i]! = x at *
      by_cases he : x.1 = k
      · have hs : (x.1.toList == k.toList) = true := by rw [he]; simp
        have E : Hid (gtV l k = x.2 ∧ fdB l k = true) := by
          obtain ⟨t1, t2⟩ := T.out
          rw [if_pos he] at t1
          rw [decide_eq_true he, Bool.true_or] at t2
          exact ⟨HN.out.1.trans t1, HN.out.2.trans t2⟩
        have he2 : x.1.toList = k.toList := by rw [he]
        clear HN T he
        go_wp2
        go_ret2
        exact ⟨by rw [E.out.1, E.out.2]; rfl, rfl⟩
      · have hs : (x.1.toList == k.toList) = false := str_no he
        have he2 : ¬ x.1.toList = k.toList := fun e => he (baL_inj e)
        have N2 : Hid (gtV l k = gtV (l.drop (i + 1)) k ∧ fdB l k = fdB (l.drop (i + 1)) k) := by
          obtain ⟨t1, t2⟩ := T.out
          rw [if_neg he] at t1
          rw [decide_eq_false he, Bool.false_or] at t2
          exact ⟨HN.out.1.trans t1, HN.out.2.trans t2⟩
        clear HN T he
        go_wp2
        go_roundg (l.length - (i + 1))
        case measure => omega
        case rel => exact ⟨i + 1, by go_num, by omega, Nat.le_refl _, rfl, N2⟩
    · have hilz : ¬ (i : Int) < (l.length : Int) := by omega
      obtain rfl : i = l.length := by omega
      rw [List.drop_length] at HN
      go_wp2
      go_ret2
      exact ⟨by rw [HN.out.1, HN.out.2]; rfl, rfl⟩

theorem dl_take {l : List En} {k : ByteArray} {i : Nat} (h : i < l.length) : dlL (l.take (i + 1)) k = dlL (l.take i) k ++ (if l[i]!.1 = k then [] else [l[i]!]) := by
  rw [take_next h]
  unfold dlL
  rw [List.filter_append]
  congr 1
  generalize l[i]! = x
  by_cases c : x.1 = k
  · rw [if_pos c]; simp [c]
  · rw [if_neg c]; simp [c]
theorem dl_len (l : List En) (k : ByteArray) : (dlL l k).length ≤ l.length := List.length_filter_le _ _

set_option maxHeartbeats 2000000 in
set_option maxRecDepth 100000 in
theorem rdel_any (v : Value) (l : List En) (k : ByteArray) (w : World) (h : Row encP 2 w v l) (hl : l.length ≤ 100000) :
    Calls Tryz.prog 25 #[v, .string k] w (Gv w (dlL l k)) := by
  obtain ⟨ao, cap, rfl, h1, h2, h3⟩ := h
  have H3 : Aside (l ≠ [] → ∃ b off, ao = some ⟨b, off, none⟩ ∧ b < w.heap.size ∧ CellsK encP 2 w b off l) := h3
  clear h3
  go_enter Tryz.func25, Tryz.ntmps25
  go_wp2
  go_loopg [5, 6] l.length (fun kx s5 s6 wr => ∃ (i : Nat) (ao' : Option Addr) (n' c' : Nat) (out : List En), s5 = .slice ao' n' c' ∧ s6 = .int .i64 i ∧ i ≤ l.length ∧ l.length - i ≤ kx ∧ out.length ≤ i ∧ Hid (dlL (l.take i) k = out) ∧ Aside (OwnZ w.heap.size wr (.slice ao' n' c') out) ∧ Hid (Below w.heap.size w wr))
  case atStart => exact ⟨0, none, 0, 0, [], rfl, rfl, Nat.zero_le _, Nat.le_refl _, Nat.le_refl _, rfl, OwnZ.empty _ _ _, Below.refl _ _⟩
  case round =>
    obtain ⟨i, ao', n', c', out, rfl, rfl, hi, hki, hol, HD, HO, HB⟩ := hrel
    by_cases hil : i < l.length
    · have hilz : (i : Int) < (l.length : Int) := by omega
      obtain ⟨b, off, rfl, hb, x1, x2⟩ := row_at H3.out i hil HB.out
      have T : Hid _ := dl_take (k := k) hil
      rw [HD.out] at T
      generalize l[i]! = x at *
      by_cases he : x.1 = k
      · have hs : (x.1.toList == k.toList) = true := by rw [he]; simp
        have he2 : x.1.toList = k.toList := by rw [he]
        have T2 : Hid (dlL (l.take (i + 1)) k = out) := by
          have := T.out; rw [if_pos he, List.append_nil] at this; exact this
        clear T he
        go_wp2
        go_roundg (l.length - (i + 1))
        case measure => omega
        case rel => exact ⟨i + 1, ao', n', c', out, rfl, by go_num, by omega, Nat.le_refl _, by omega, T2, HO, HB⟩
      · have hs : (x.1.toList == k.toList) = false := str_no he
        have he2 : ¬ x.1.toList = k.toList := fun e => he (baL_inj e)
        obtain ⟨o2, ho2⟩ : ∃ o2, out ++ [x] = o2 := ⟨_, rfl⟩
        have O2 : Hid (out ++ [x] = o2) := ho2
        have l2 : o2.length ≤ i + 1 := by rw [← ho2]; simp; omega
        have T2 : Hid (dlL (l.take (i + 1)) k = o2) := by
          have := T.out; rw [if_neg he, ho2] at this; exact this
        have B2 : Hid (Below w.heap.size w (wr.alloc (.cells #[.string x.1, .string x.2] 39))) := HB.out.alloc HB.out.size _
        have OA : Aside (OwnZ w.heap.size (wr.alloc (.cells #[.string x.1, .string x.2] 39)) (.slice ao' n' c') out) := HO.out.below ((Below.refl _ wr).alloc (Nat.le_refl _) _)
        have RO : Hid (Row encP 2 (wr.alloc (.cells #[.string x.1, .string x.2] 39)) (.slice (some ⟨wr.heap.size, 0, none⟩) 1 1) [x]) := (Cl.new wr #[.string x.1, .string x.2] 39).row
        have hsz := B2.out.size
        clear T he ho2 HO HD
        go_wp2_with (at_builtin; refine app_z rfl _ _ rfl w.heap.size _ out rfl OA.out _ [x] rfl RO.out (by simp; omega) hsz o2 O2.out ?_)
        intro a3 n3 c3 w3 O3 B3
        have O4 : Aside (OwnZ w.heap.size w3 (.slice a3 n3 c3) o2) := O3
        have B4 : Hid (Below w.heap.size w w3) := B3 _ B2.out
        clear O3 B3 OA RO B2 hsz O2
        go_wp2
        go_roundg (l.length - (i + 1))
        case measure => omega
        case rel => exact ⟨i + 1, a3, n3, c3, o2, rfl, by go_num, by omega, Nat.le_refl _, by omega, T2, O4, B4⟩
    · have hilz : ¬ (i : Int) < (l.length : Int) := by omega
      obtain rfl : i = l.length := by omega
      rw [List.take_length] at HD
      go_wp2
      go_ret
      exact ⟨_, rfl, by rw [HD.out]; exact HO.out.own, HB.out⟩

theorem ltK_not {a b : ByteArray} : ltK a b = !(ltK b a || decide (b = a)) := by
  cases h : ltK a b
  · by_cases e : b = a
    · simp [e]
    · rw [ltK_of_not h fun e2 => e e2.symm]; rfl
  · rw [ltK_asymm h, decide_eq_false fun e => ltK_ne h e.symm]; rfl

theorem ins_drop {r : List En} {x : En} {i : Nat} (h : i < r.length) : insL x (r.drop i) = (if ltK x.1 r[i]!.1 = true then x :: r[i]! :: r.drop (i + 1) else r[i]! :: insL x (r.drop (i + 1))) := by
  rw [drop_here h]; rfl

set_option maxHeartbeats 4000000 in
set_option maxRecDepth 100000 in
theorem rput_any (vl : Value) (l : List En) (k v : ByteArray) (w : World) (h : Row encP 2 w vl l) (hl : l.length ≤ 100000) :
    Calls Tryz.prog 18 #[vl, .string k, .string v] w (Gv w (ptL l k v)) := by
  have C : Hid _ := rdel_any vl l k w h hl
  obtain ⟨ao, c, rfl, _⟩ := h.shape
  have hr := dl_len l k
  unfold ptL
  generalize dlL l k = r at *
  obtain ⟨P, hP⟩ : ∃ P, insL (k, v) r = P := ⟨_, rfl⟩
  rw [hP]
  have HP : Hid (insL (k, v) r = P) := hP
  have hrl : r.length ≤ 100000 := by omega
  clear h hP hl hr
  go_enter Tryz.func18, Tryz.ntmps18
  go_upto_region 2 with (go_at_call 25; refine Calls.mono C.out ?_; rintro e w1 ⟨v1, rfl, ho, hb⟩)
  obtain ⟨ro, rc, rfl, h1, h2, h3⟩ := ho.row
  have H3 : Aside (r ≠ [] → ∃ b off, ro = some ⟨b, off, none⟩ ∧ b < w1.heap.size ∧ CellsK encP 2 w1 b off r) := h3
  have B1 : Hid (Below w.heap.size w w1) := hb
  clear h3 hb ho C
  go_wp2
  go_loopg [8, 9, 10] r.length (fun kx s8 s9 s10 wr => ∃ (i : Nat) (d : Bool) (ao' : Option Addr) (n' c' : Nat) (out : List En), s8 = .slice ao' n' c' ∧ s9 = .bool d ∧ s10 = .int .i64 i ∧ i ≤ r.length ∧ r.length - i ≤ kx ∧ out.length ≤ 2 * i ∧ Hid (out ++ (if d = true then r.drop i else insL (k, v) (r.drop i)) = P) ∧ Aside (OwnZ w1.heap.size wr (.slice ao' n' c') out) ∧ Hid (Below w1.heap.size w1 wr))
  case atStart => exact ⟨0, false, none, 0, 0, [], rfl, rfl, rfl, Nat.zero_le _, Nat.le_refl _, by simp, HP, OwnZ.empty _ _ _, Below.refl _ _⟩
  case round =>
    clear HP
    obtain ⟨i, d, ao', n', c', out, rfl, rfl, rfl, hi, hki, hol, HE, HO, HB⟩ := hrel
    by_cases hil : i < r.length
    · have hilz : (i : Int) < (r.length : Int) := by omega
      obtain ⟨b, off, rfl, hb, x1, x2⟩ := row_at H3.out i hil HB.out
      have T : Hid _ := ins_drop (x := (k, v)) hil
      have T2 : Hid (r.drop i = r[i]! :: r.drop (i + 1)) := drop_here hil
      obtain ⟨y, hy⟩ : ∃ y, r[i]! = y := ⟨_, rfl⟩
      rw [hy] at x1 x2 T T2
      have Y : Hid (r[i]! = y) := hy
      clear hy
      cases d with
      | true =>
        obtain ⟨o2, ho2⟩ : ∃ o2, out ++ [y] = o2 := ⟨_, rfl⟩
        have O2 : Hid (out ++ [y] = o2) := ho2
        have l2 : o2.length ≤ 2 * i + 1 := by rw [← ho2]; simp; omega
        have E2 : Hid (o2 ++ (if true = true then r.drop (i + 1) else insL (k, v) (r.drop (i + 1))) = P) := by
          have := HE.out
          rw [if_pos rfl, T2.out] at this
          show _ = _
          rw [if_pos rfl, ← ho2, ← this, List.append_assoc]; rfl
        have B2 : Hid (Below w1.heap.size w1 (wr.alloc (.cells #[.string y.1, .string y.2] 39))) := HB.out.alloc HB.out.size _
        have OA : Aside (OwnZ w1.heap.size (wr.alloc (.cells #[.string y.1, .string y.2] 39)) (.slice ao' n' c') out) := HO.out.below ((Below.refl _ wr).alloc (Nat.le_refl _) _)
        have RO : Hid (Row encP 2 (wr.alloc (.cells #[.string y.1, .string y.2] 39)) (.slice (some ⟨wr.heap.size, 0, none⟩) 1 1) [y]) := (Cl.new wr #[.string y.1, .string y.2] 39).row
        have hsz := B2.out.size
        clear T T2 ho2 HO HE
        go_wp2_with (at_builtin; refine app_z rfl _ _ rfl w1.heap.size _ out rfl OA.out _ [y] rfl RO.out (by simp; omega) hsz o2 O2.out ?_)
        intro a3 n3 c3 w3 O3 B3
        have O4 : Aside (OwnZ w1.heap.size w3 (.slice a3 n3 c3) o2) := O3
        have B4 : Hid (Below w1.heap.size w1 w3) := B3 _ B2.out
        clear O3 B3 OA RO B2 hsz O2
        go_wp2
        go_roundg (r.length - (i + 1))
        case measure => omega
        case rel => exact ⟨i + 1, true, a3, n3, c3, o2, rfl, rfl, by go_num, by omega, Nat.le_refl _, by omega, E2, O4, B4⟩
      | false =>
        cases hg : ltK k y.1 with
        | false =>
          have hgt : (!(Op.bytesLess y.1.toList k.toList || y.1.toList == k.toList)) = false := by
            rw [str_eq]; have := ltK_not (a := k) (b := y.1); rw [hg] at this; exact this.symm
          obtain ⟨o2, ho2⟩ : ∃ o2, out ++ [y] = o2 := ⟨_, rfl⟩
          have O2 : Hid (out ++ [y] = o2) := ho2
          have l2 : o2.length ≤ 2 * i + 1 := by rw [← ho2]; simp; omega
          have E2 : Hid (o2 ++ (if false = true then r.drop (i + 1) else insL (k, v) (r.drop (i + 1))) = P) := by
            have := HE.out
            rw [if_neg (by simp), T.out, if_neg (by rw [hg]; simp)] at this
            show _ = _
            rw [if_neg (by simp), ← ho2, ← this, List.append_assoc]; rfl
          have B2 : Hid (Below w1.heap.size w1 (wr.alloc (.cells #[.string y.1, .string y.2] 39))) := HB.out.alloc HB.out.size _
          have OA : Aside (OwnZ w1.heap.size (wr.alloc (.cells #[.string y.1, .string y.2] 39)) (.slice ao' n' c') out) := HO.out.below ((Below.refl _ wr).alloc (Nat.le_refl _) _)
          have RO : Hid (Row encP 2 (wr.alloc (.cells #[.string y.1, .string y.2] 39)) (.slice (some ⟨wr.heap.size, 0, none⟩) 1 1) [y]) := (Cl.new wr #[.string y.1, .string y.2] 39).row
          have hsz := B2.out.size
          clear T T2 ho2 HO HE hg
          go_upto_region 10 with fail
          go_wp2_with (at_builtin; refine app_z rfl _ _ rfl w1.heap.size _ out rfl OA.out _ [y] rfl RO.out (by simp; omega) hsz o2 O2.out ?_)
          intro a3 n3 c3 w3 O3 B3
          have O4 : Aside (OwnZ w1.heap.size w3 (.slice a3 n3 c3) o2) := O3
          have B4 : Hid (Below w1.heap.size w1 w3) := B3 _ B2.out
          clear O3 B3 OA RO B2 hsz O2
          go_wp2
          go_roundg (r.length - (i + 1))
          case measure => omega
          case rel => exact ⟨i + 1, false, a3, n3, c3, o2, rfl, rfl, by go_num, by omega, Nat.le_refl _, by omega, E2, O4, B4⟩
        | true =>
          have hgt : (!(Op.bytesLess y.1.toList k.toList || y.1.toList == k.toList)) = true := by
            rw [str_eq]; have := ltK_not (a := k) (b := y.1); rw [hg] at this; exact this.symm
          obtain ⟨o2, ho2⟩ : ∃ o2, out ++ [(k, v)] = o2 := ⟨_, rfl⟩
          obtain ⟨o3, ho3⟩ : ∃ o3, o2 ++ [y] = o3 := ⟨_, rfl⟩
          have O2 : Hid (out ++ [(k, v)] = o2) := ho2
          have O3 : Hid (o2 ++ [y] = o3) := ho3
          have l2 : o2.length ≤ 2 * i + 1 := by rw [← ho2]; simp; omega
          have l3 : o3.length ≤ 2 * i + 2 := by rw [← ho3]; simp; omega
          have E2 : Hid (o3 ++ (if true = true then r.drop (i + 1) else insL (k, v) (r.drop (i + 1))) = P) := by
            have := HE.out
            rw [if_neg (by simp), T.out, if_pos hg] at this
            show _ = _
            rw [if_pos rfl, ← ho3, ← ho2, ← this, List.append_assoc, List.append_assoc]; rfl
          have B2 : Hid (Below w1.heap.size w1 (wr.alloc (.cells #[.string k, .string v] 39))) := HB.out.alloc HB.out.size _
          have OA : Aside (OwnZ w1.heap.size (wr.alloc (.cells #[.string k, .string v] 39)) (.slice ao' n' c') out) := HO.out.below ((Below.refl _ wr).alloc (Nat.le_refl _) _)
          have RO : Hid (Row encP 2 (wr.alloc (.cells #[.string k, .string v] 39)) (.slice (some ⟨wr.heap.size, 0, none⟩) 1 1) [(k, v)]) := (Cl.new wr #[.string k, .string v] 39).row
          have hsz := B2.out.size
          clear T T2 ho2 ho3 HO HE hg
          go_upto_region 8 with fail
          go_wp2_with (at_builtin; refine app_z rfl _ _ rfl w1.heap.size _ out rfl OA.out _ [(k, v)] rfl RO.out (by simp; omega) hsz o2 O2.out ?_)
          intro a3 n3 c3 w3 P3 Q3
          have P4 : Aside (OwnZ w1.heap.size w3 (.slice a3 n3 c3) o2) := P3
          have B4 : Hid (Below w1.heap.size w1 w3) := Q3 _ B2.out
          clear P3 Q3 OA RO B2 hsz O2 x1 x2
          obtain ⟨b5, off5, e5, _, y1, y2⟩ := row_at H3.out i hil B4.out
          cases e5
          rw [Y.out] at y1 y2
          have B5 : Hid (Below w1.heap.size w1 (w3.alloc (.cells #[.string y.1, .string y.2] 39))) := B4.out.alloc B4.out.size _
          have OB : Aside (OwnZ w1.heap.size (w3.alloc (.cells #[.string y.1, .string y.2] 39)) (.slice a3 n3 c3) o2) := P4.out.below ((Below.refl _ w3).alloc (Nat.le_refl _) _)
          have RB : Hid (Row encP 2 (w3.alloc (.cells #[.string y.1, .string y.2] 39)) (.slice (some ⟨w3.heap.size, 0, none⟩) 1 1) [y]) := (Cl.new w3 #[.string y.1, .string y.2] 39).row
          have hsz := B5.out.size
          clear P4
          go_wp2_with (at_builtin; refine app_z rfl _ _ rfl w1.heap.size _ o2 rfl OB.out _ [y] rfl RB.out (by simp; omega) hsz o3 O3.out ?_)
          intro a6 n6 c6 w6 P6 Q6
          have P7 : Aside (OwnZ w1.heap.size w6 (.slice a6 n6 c6) o3) := P6
          have B7 : Hid (Below w1.heap.size w1 w6) := Q6 _ B5.out
          clear P6 Q6 OB RB B5 hsz O3 y1 y2
          go_wp2
          go_roundg (r.length - (i + 1))
          case measure => omega
          case rel => exact ⟨i + 1, true, a6, n6, c6, o3, rfl, rfl, by go_num, by omega, Nat.le_refl _, by omega, E2, P7, B7⟩
    · have hilz : ¬ (i : Int) < (r.length : Int) := by omega
      obtain rfl : i = r.length := by omega
      rw [List.drop_length] at HE
      cases d with
      | true =>
        have E2 : Hid (out = P) := by have := HE.out; rw [if_pos rfl, List.append_nil] at this; exact this
        clear HE
        go_wp2
        go_ret
        exact ⟨_, rfl, by rw [← E2.out]; exact HO.out.own.mono B1.out.size, B1.out.trans (HB.out.mono B1.out.size)⟩
      | false =>
        have E2 : Hid (out ++ [(k, v)] = P) := by have := HE.out; rw [if_neg (by simp)] at this; exact this
        have B2 : Hid (Below w1.heap.size w1 (wr.alloc (.cells #[.string k, .string v] 39))) := HB.out.alloc HB.out.size _
        have OA : Aside (OwnZ w1.heap.size (wr.alloc (.cells #[.string k, .string v] 39)) (.slice ao' n' c') out) := HO.out.below ((Below.refl _ wr).alloc (Nat.le_refl _) _)
        have RO : Hid (Row encP 2 (wr.alloc (.cells #[.string k, .string v] 39)) (.slice (some ⟨wr.heap.size, 0, none⟩) 1 1) [(k, v)]) := (Cl.new wr #[.string k, .string v] 39).row
        have hsz := B2.out.size
        clear HE HO
        go_wp2_with (at_builtin; refine app_z rfl _ _ rfl w1.heap.size _ out rfl OA.out _ [(k, v)] rfl RO.out (by simp; omega) hsz P E2.out ?_)
        intro a3 n3 c3 w3 P3 Q3
        have P4 : Aside (OwnZ w1.heap.size w3 (.slice a3 n3 c3) P) := P3
        have B4 : Hid (Below w1.heap.size w1 w3) := Q3 _ B2.out
        clear P3 Q3 OA RO B2 hsz
        go_wp2
        go_ret
        exact ⟨_, rfl, P4.out.own.mono B1.out.size, B1.out.trans (B4.out.mono B1.out.size)⟩
end

/-! EnCode -/
section
open Go.Shelf Go.RowKit Go.Lib Go.Sort

/-- A row of texts. -/
def encS (s : ByteArray) : List Value := [.string s]
theorem encS_len (s : ByteArray) : (encS s).length = 1 := rfl
theorem encS_one (s : ByteArray) : ∀ v ∈ encS s, v.oneCell' = true := fun v hv => by simp [encS] at hv; subst hv; rfl
theorem infoStr : (Tryz.prog.info? 9).map (fun i => (i.zero, i.size, i.bytes)) = some (some (.string ⟨#[]⟩), 1, 16) := by kernel_rfl

abbrev OwnS (base : Nat) (W : World) (v : Value) (l : List ByteArray) : Prop := W.ownsRow base 9 1 v l.length (flatK encS 1 l.toArray).toList

theorem OwnS.empty (base : Nat) (W : World) : OwnS base W (.slice none 0 0) [] := by unfold OwnS; simpa [flatK] using World.ownsRow_nil W base 9 1

theorem flat_two (x y : ByteArray) : (flatK encS 1 [x, y].toArray).toList = [.string x, .string y] := by
  have h := flatK_append encS 1 encS_len [x, y] []
  have h1 := flatK_snoc encS 1 encS_len [] x
  have h2 := flatK_snoc encS 1 encS_len [x] y
  rw [List.nil_append] at h1
  rw [show [x] ++ [y] = [x, y] from rfl, h1] at h2
  rw [h2]
  simp [flatK, encS]

/-- Two texts appended. -/
theorem app_two {ops : Array Oper} {rest : List Oper} {o : Oper} {a : Act} {Q : Exit → Act → World → Prop} {w : World} (hgd : o.guard = .none) (s x : Operand)
    (ho : o.op = .call { callee := .builtin .append, args := #[s, x], argTypes := #[41, 41] }) (base : Nat) (v : Value) (l : List ByteArray) (hs : a.eval s = v) (hown : OwnS base w v l)
    (q : Nat) (y z : ByteArray) (hx : a.eval x = .slice (some ⟨q, 0, none⟩) 2 2) (hq : Cl w q #[.string y, .string z] 9) (hl : l.length + 2 < 1000000) (hbase : base ≤ w.heap.size) (lm : List ByteArray) (hlm : l ++ [y, z] = lm)
    (h : ∀ ao n c w', OwnS base w' (.slice ao n c) lm → (∀ w0, Below base w0 w → Below base w0 w') → wpList Tryz.prog ops Q rest (a.put o.dst (.slice ao n c)) w') : wpList Tryz.prog ops Q (o :: rest) a w := by
  subst hlm
  obtain ⟨i0, hi, hz0, hz1, hz2⟩ := info_parts infoStr
  refine wpList_append_own w hgd s x 41 ho base 9 i0 _ 1 16 Tryz.underlying41 hi hz0 hz1 hz2 rfl (by decide) v _ _ hs hown ⟨q, 0, none⟩ 2 2 [.string y, .string z] hx rfl ?_ (fun u hu => by simp at hu; rcases hu with rfl | rfl <;> rfl) (by unfold maxLen; omega) (by omega) hbase ?_
  · intro j u hj
    rw [Go.WideShapes.add_plain, Nat.zero_add, hq.cell j, ← hj]
    match j with
    | 0 => rfl
    | 1 => rfl
    | j + 2 => simp
  · intro v' w' g1 g2 _
    obtain ⟨ao', n', c', rfl⟩ : ∃ ao n c, v' = .slice ao n c := by
      rcases g1.2 with ⟨h, _⟩ | ⟨g, cap, cur, h, _⟩
      · exact ⟨_, _, _, h⟩
      · exact ⟨_, _, _, h⟩
    refine h _ _ _ _ ?_ (fun w0 hb => hb.grown g2 hbase fun k hk => ?_)
    · show w'.ownsRow base 9 1 _ (l ++ [y, z]).length (flatK encS 1 (l ++ [y, z]).toArray).toList
      rw [List.length_append, flatK_append encS 1 encS_len, flat_two]
      exact g1
    · rcases row_of_owns hown with hr | ⟨r, hr, hle⟩
      · rw [hr] at hk; cases hk
      · rw [hr] at hk; cases hk; exact hle

/-- The texts that Encode joins. -/
def ptS : List En → List ByteArray
  | [] => []
  | x :: l => ⟨(txL x.1).toArray⟩ :: ⟨(txL x.2).toArray⟩ :: ptS l
theorem ptS_app (l m : List En) : ptS (l ++ m) = ptS l ++ ptS m := by
  induction l with
  | nil => rfl
  | cons x l ih => simp [ptS, ih]
theorem ptS_snoc {l : List En} {i : Nat} (h : i < l.length) : ptS (l.take (i + 1)) = ptS (l.take i) ++ [⟨(txL l[i]!.1).toArray⟩, ⟨(txL l[i]!.2).toArray⟩] := by
  rw [take_next h, ptS_app]; rfl
theorem ptS_len (l : List En) : (ptS l).length = 2 * l.length := by
  induction l with
  | nil => rfl
  | cons x l ih => simp [ptS, ih]; omega
theorem cat_ptS (l : List En) : cat (ptS l) = enL l := by
  induction l with
  | nil => rfl
  | cons x l ih =>
    unfold cat at ih ⊢
    simp [ptS, enL, enE, ih]

theorem tx_may {s : ByteArray} (h : s.size ≤ 255) : textS s = txL s ∧ textE s = 0 := by
  unfold textS textE txL
  rw [if_pos h, if_pos h]
  exact ⟨rfl, rfl⟩

/-- Join of a row of texts. -/
theorem join_own {base : Nat} {w : World} {v : Value} {xs : List ByteArray} (h : OwnS base w v xs) (hN : xs.length ≤ 1000000) (hlen : (cat xs).length ≤ 140737488355328) :
    Calls Tryz.prog 63 #[v] w fun r w' => r = .returned (.string ⟨(cat xs).toArray⟩) ∧ Below w.heap.size w w' := by
  obtain ⟨ao, c, rfl, h1, h2, h3⟩ := (own_of_owns (enc := encS) (by decide) h).row
  by_cases hne : xs = []
  · subst hne
    exact (join_none ao c w).mono fun _ _ ⟨a, b⟩ => ⟨a, by rw [b]; exact Below.refl _ _⟩
  · obtain ⟨b, off, rfl, hb, hc⟩ := h3 hne
    refine join_any b off c xs.length xs w (fun j x hj => ?_) hb rfl (by omega) h1 hlen
    obtain ⟨hj1, hj2⟩ := List.getElem?_eq_some_iff.1 hj
    rw [hc j (by omega), get_flatK _ _ _ _ (by simpa using hj1)]
    rw [Nat.div_one, Nat.mod_one, getElem!_pos xs.toArray j (by simpa using hj1)]
    simp [encS, hj2]

theorem OwnS.below {base : Nat} {w w' : World} {v : Value} {l : List ByteArray} (h : OwnS base w v l) (hb : Below w.heap.size w w') : OwnS base w' v l := ownsRow_below h hb

set_option maxHeartbeats 4000000 in
set_option maxRecDepth 100000 in
theorem encode_any (v : Value) (l : List En) (w : World) (h : Row encP 2 w v l) (hl : l.length ≤ 100000) :
    Calls Tryz.prog 35 #[v] w fun e w' => e = .returned (.tuple #[.string (ecS l), .int .i64 (ecE l)]) ∧ Below w.heap.size w w' := by
  have C : Hid _ := right_any v l w h (by omega)
  have H : Aside (Row encP 2 w v l) := h
  obtain ⟨ao, cap, rfl, hcap⟩ := h.shape
  clear h
  unfold ecS ecE
  cases hr : rgB l with
  | false =>
    rw [if_neg (by simp), if_neg (by simp)]
    rw [hr] at C
    go_enter Tryz.func35, Tryz.ntmps35
    go_wp2_with (go_at_call 61; refine Calls.mono C.out ?_; rintro e w1 ⟨rfl, hb⟩)
    go_ret2
    exact ⟨rfl, hb⟩
  | true =>
    rw [if_pos rfl, if_pos rfl]
    rw [hr] at C
    have RG : Hid (Rg l) := rg_of hr
    clear hr
    go_enter Tryz.func35, Tryz.ntmps35
    go_upto_region 3 with (go_at_call 61; refine Calls.mono C.out ?_; rintro e w1 ⟨rfl, hb⟩)
    have B1 : Hid (Below w.heap.size w w1) := hb
    have H1 : Aside (Row encP 2 w1 (.slice ao l.length cap) l) := H.out.below hb
    clear hb C H
    obtain ⟨ao1, cap1, e1, h1, h2, h3⟩ := H1.out
    cases e1
    have H3 : Aside (l ≠ [] → ∃ b off, ao = some ⟨b, off, none⟩ ∧ b < w1.heap.size ∧ CellsK encP 2 w1 b off l) := h3
    clear h3 H1
    go_wp2
    go_loopg [4, 16] l.length (fun kx s4 s16 wr => ∃ (i : Nat) (ao' : Option Addr) (n' c' : Nat) (out : List ByteArray), s4 = .slice ao' n' c' ∧ s16 = .int .i64 i ∧ i ≤ l.length ∧ l.length - i ≤ kx ∧ out.length = 2 * i ∧ Hid (ptS (l.take i) = out) ∧ Aside (OwnS w1.heap.size wr (.slice ao' n' c') out) ∧ Hid (Below w1.heap.size w1 wr))
    case atStart => exact ⟨0, none, 0, 0, [], rfl, rfl, Nat.zero_le _, Nat.le_refl _, rfl, rfl, OwnS.empty _ _, Below.refl _ _⟩
    case round =>
      obtain ⟨i, ao', n', c', out, rfl, rfl, hi, hki, hol, HD, HO, HB⟩ := hrel
      by_cases hil : i < l.length
      · have hilz : (i : Int) < (l.length : Int) := by omega
        obtain ⟨b, off, rfl, hb, x1, x2⟩ := row_at H3.out i hil HB.out
        have T : Hid _ := ptS_snoc hil
        have hm := mayB_iff.1 (RG.out.may _ (bang_mem hil))
        rw [HD.out] at T
        generalize l[i]! = x at *
        obtain ⟨t1, t2⟩ := tx_may (s := x.1) (by omega)
        obtain ⟨t3, t4⟩ := tx_may (s := x.2) (by omega)
        have B2 : Hid (Below w1.heap.size w1 (wr.alloc (.cells #[.string x.1, .string x.2] 39))) := HB.out.alloc HB.out.size _
        have O2 : Aside (OwnS w1.heap.size (wr.alloc (.cells #[.string x.1, .string x.2] 39)) (.slice ao' n' c') out) := HO.out.below ((Below.refl _ wr).alloc (Nat.le_refl _) _)
        have K2 : Hid (Cl (wr.alloc (.cells #[.string x.1, .string x.2] 39)) wr.heap.size #[.string x.1, .string x.2] 39) := Cl.new _ _ _
        clear HO HB HD
        go_upto_region 7 with fail
        generalize wr.alloc (.cells #[.string x.1, .string x.2] 39) = W at *
        generalize wr.heap.size = p at *
        obtain ⟨y1, y2⟩ := K2.out.two
        have plt := K2.out.lt
        have C1 : Hid _ := text_any x.1 W (by unfold maxLen; omega)
        rw [t1, t2] at C1
        go_upto_region 8 with (go_at_call 62; refine Calls.mono C1.out ?_; rintro e w3 ⟨rfl, hb3⟩)
        have B3 : Hid (Below w1.heap.size w1 w3) := B2.out.trans (hb3.mono B2.out.size)
        have O3 : Aside (OwnS w1.heap.size w3 (.slice ao' n' c') out) := O2.out.below hb3
        have K3 : Hid (Cl w3 p #[.string x.1, .string x.2] 39) := K2.out.on hb3
        clear B2 O2 K2 hb3 C1 y1 y2 plt x1 x2
        obtain ⟨y1, y2⟩ := K3.out.two
        have plt := K3.out.lt
        have C2 : Hid _ := text_any x.2 w3 (by unfold maxLen; omega)
        rw [t3, t4] at C2
        go_upto_region 9 with (go_at_call 62; refine Calls.mono C2.out ?_; rintro e w4 ⟨rfl, hb4⟩)
        have B4 : Hid (Below w1.heap.size w1 w4) := B3.out.trans (hb4.mono B3.out.size)
        have O4 : Aside (OwnS w1.heap.size w4 (.slice ao' n' c') out) := O3.out.below hb4
        clear B3 O3 K3 hb4 C2 y1 y2 plt t1 t2 t3 t4 hm
        obtain ⟨o2, ho2⟩ : ∃ o2, ptS (l.take (i + 1)) = o2 := ⟨_, rfl⟩
        have T2 : Hid (out ++ [(⟨(txL x.1).toArray⟩ : ByteArray), ⟨(txL x.2).toArray⟩] = o2) := by show _ = _; rw [← T.out, ho2]
        have l2 : o2.length = 2 * (i + 1) := by rw [← T2.out]; simp; omega
        have HD2 : Hid (ptS (l.take (i + 1)) = o2) := ho2
        clear T ho2
        generalize (⟨(txL x.1).toArray⟩ : ByteArray) = p1 at *
        generalize (⟨(txL x.2).toArray⟩ : ByteArray) = p2 at *
        have B5 : Hid (Below w1.heap.size w1 (w4.alloc (.cells #[.string p1, .string p2] 9))) := B4.out.alloc B4.out.size _
        have O5 : Aside (OwnS w1.heap.size (w4.alloc (.cells #[.string p1, .string p2] 9)) (.slice ao' n' c') out) := O4.out.below ((Below.refl _ w4).alloc (Nat.le_refl _) _)
        have K5 : Hid (Cl (w4.alloc (.cells #[.string p1, .string p2] 9)) w4.heap.size #[.string p1, .string p2] 9) := Cl.new _ _ _
        have hsz := B5.out.size
        clear O4 B4
        go_wp2_with (at_builtin; refine app_two rfl _ _ rfl w1.heap.size _ out rfl O5.out _ p1 p2 rfl K5.out (by omega) hsz o2 T2.out ?_)
        intro a6 n6 c6 w6 P6 Q6
        have O7 : Aside (OwnS w1.heap.size w6 (.slice a6 n6 c6) o2) := P6
        have B7 : Hid (Below w1.heap.size w1 w6) := Q6 _ B5.out
        clear P6 Q6 O5 K5 B5 hsz T2
        go_wp2
        go_roundg (l.length - (i + 1))
        case measure => omega
        case rel => exact ⟨i + 1, a6, n6, c6, o2, rfl, by go_num, by omega, Nat.le_refl _, l2, HD2, O7, B7⟩
      · have hilz : ¬ (i : Int) < (l.length : Int) := by omega
        obtain rfl : i = l.length := by omega
        rw [List.take_length] at HD
        have hb2 : szL l ≤ l.length * 58 := szL_bound fun x hx => by
          have := mayB_iff.1 (RG.out.may x hx); unfold szE; omega
        have CJ : Hid _ := join_own HO.out (by omega) (by rw [← HD.out, cat_ptS, enL_length]; omega)
        rw [← HD.out, cat_ptS] at CJ
        clear HO HD
        go_wp2_with (go_at_call 63; refine Calls.mono CJ.out ?_; rintro e w6 ⟨rfl, hb6⟩)
        go_ret2
        exact ⟨rfl, B1.out.trans ((HB.out.trans (hb6.mono HB.out.size)).mono B1.out.size)⟩
end

end Go.Proofs.YtljmkajpjjdnhaaGreatDoor.N
