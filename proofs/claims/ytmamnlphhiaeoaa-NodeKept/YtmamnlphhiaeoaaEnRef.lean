/-
  The walks of the document's functions: May, Right, Same, Get, Delete, Put, Size, Half.
-/
import Derived.Test.YtmamnlphhiaeoaaEnSize
namespace Go.Proofs.Ytmamnlphhiaeoaa
open Go.Shelf Go.RowKit Go.Lib Go.Sort

theorem str_no {a b : ByteArray} (h : a ≠ b) : (a.toList == b.toList) = false := by rw [str_eq]; exact decide_eq_false h

set_option maxHeartbeats 2000000 in
set_option maxRecDepth 100000 in
theorem same_any (va vb : Value) (a b : List En) (w : World) (ha : Row encP 2 w va a) (hb : Row encP 2 w vb b) (hl : a.length ≤ 1000000) (hl2 : b.length ≤ 1000000) :
    Calls Try.prog 44 #[va, vb] w fun e w' => e = .returned (.bool (decide (a = b))) ∧ Below w.heap.size w w' := by
  obtain ⟨ao, ca, rfl, a1, a2, a3⟩ := ha
  obtain ⟨bo, cb, rfl, b1, b2, b3⟩ := hb
  have A3 : Aside (a ≠ [] → ∃ b off, ao = some ⟨b, off, none⟩ ∧ b < w.heap.size ∧ CellsK encP 2 w b off a) := a3
  have B3 : Aside (b ≠ [] → ∃ b' off, bo = some ⟨b', off, none⟩ ∧ b' < w.heap.size ∧ CellsK encP 2 w b' off b) := b3
  clear a3 b3
  by_cases hlen : a.length = b.length
  · have HL : Hid (a.length = b.length) := hlen
    have hle1 : a.length ≤ b.length := by omega
    have hle2 : b.length ≤ a.length := by omega
    have hneq : ((a.length : Int) != (b.length : Int)) = false := by simp; omega
    clear hlen
    go_enter Try.func44, Try.ntmps44
    go_wp2
    go_loopg [5] a.length (fun kx s5 wr => ∃ (i : Nat), s5 = .int .i64 i ∧ i ≤ a.length ∧ a.length - i ≤ kx ∧ Hid (GR w wr) ∧ Hid (a.take i = b.take i))
    case atStart => exact ⟨0, rfl, Nat.zero_le _, Nat.le_refl _, GR.refl _, by simp [Hid]⟩
    case round =>
      obtain ⟨i, rfl, hi, hki, HG, HN⟩ := hrel
      by_cases hil : i < a.length
      · have hilz : (i : Int) < (a.length : Int) := by omega
        have hilb : i < b.length := by omega
        obtain ⟨ba, oa, rfl, hba, x1, x2⟩ := row_at A3.out i hil HG.out.below
        obtain ⟨bb, ob, rfl, hbb, y1, y2⟩ := row_at B3.out i hilb HG.out.below
        have T : Hid (a.take (i + 1) = a.take i ++ [a[i]!]) := take_next hil
        have T2 : Hid (b.take (i + 1) = b.take i ++ [b[i]!]) := take_next hilb
        generalize a[i]! = x at *
        generalize b[i]! = y at *
        have HD : Hid (GR w wr.drew) := HG.out.drew
        by_cases he : x = y
        · have E := fun W => neqP (x := x) (y := y) (decide_eq_true he) W
          have G := gdP x y
          have HE : Hid (x = y) := he
          clear he
          simp only [Bool.not_true] at E
          go_wp2_with fail
          go_region
          all_goals go_wp2
          all_goals go_roundg (a.length - (i + 1))
          case measure => omega
          case rel =>
            refine ⟨i + 1, by go_num, by omega, Nat.le_refl _, HD, ?_⟩
            show _ = _
            rw [T.out, T2.out, HN.out, HE.out]
        · have E := fun W => neqP (x := x) (y := y) (decide_eq_false he) W
          have G := gdP x y
          have HE : Hid (x ≠ y) := he
          clear he
          simp only [Bool.not_false] at E
          go_wp2_with fail
          go_region
          all_goals go_wp2
          all_goals go_ret
          all_goals
            refine ⟨ret_b (decide_eq_false fun h => HE.out ?_).symm, HD.out.below⟩
            subst h
            have := T.out.symm.trans T2.out
            simpa using this
      · have hilz : ¬ (i : Int) < (a.length : Int) := by omega
        obtain rfl : i = a.length := by omega
        go_wp2
        go_ret
        refine ⟨ret_b (decide_eq_true ?_).symm, HG.out.below⟩
        have := HN.out
        rw [List.take_length, HL.out, List.take_length] at this
        exact this
  · have hneq : ((a.length : Int) != (b.length : Int)) = true := by simp; omega
    have HL : Hid (a.length ≠ b.length) := hlen
    clear hlen
    go_enter Try.func44, Try.ntmps44
    go_wp2
    go_ret
    exact ⟨ret_b (decide_eq_false fun h => HL.out (by rw [h])).symm, Below.refl _ _⟩


set_option maxHeartbeats 1000000 in
theorem may_any (k v : ByteArray) (w : World) : Calls Try.prog 30 #[.string k, .string v] w fun e w' => e = .returned (.bool (mayB k v)) ∧ w = w' := by
  by_cases h1 : (1 : Int) ≤ (k.size : Int)
  · by_cases h2 : (k.size : Int) ≤ 16
    · by_cases h3 : (v.size : Int) ≤ 40
      · have E : Hid (mayB k v = true) := mayB_iff.2 (by omega)
        go_enter Try.func30, Try.ntmps30
        go_wp2
        go_ret
        exact ⟨ret_b E.out.symm, rfl⟩
      · have E : Hid (mayB k v = false) := by
          show _ = _
          cases e : mayB k v
          · rfl
          · have := mayB_iff.1 e; omega
        go_enter Try.func30, Try.ntmps30
        go_wp2
        go_ret
        exact ⟨ret_b E.out.symm, rfl⟩
    · have E : Hid (mayB k v = false) := by
        show _ = _
        cases e : mayB k v
        · rfl
        · have := mayB_iff.1 e; omega
      go_enter Try.func30, Try.ntmps30
      go_wp2
      go_ret
      exact ⟨ret_b E.out.symm, rfl⟩
  · have E : Hid (mayB k v = false) := by
      show _ = _
      cases e : mayB k v
      · rfl
      · have := mayB_iff.1 e; omega
    go_enter Try.func30, Try.ntmps30
    go_wp2
    go_ret
    exact ⟨ret_b E.out.symm, rfl⟩

theorem may_q (k v : ByteArray) (e : Bool) (he : mayB k v = e) (W : World) : ∀ m, Calls Try.prog 30 #[.string k, .string v] (W.drewN m) fun r w' => r = .returned (.bool e) ∧ ∃ m', w' = W.drewN m' := fun m =>
  (may_any k v (W.drewN m)).mono fun _ _ ⟨h1, h2⟩ => ⟨by rw [h1, he], m, h2.symm⟩

set_option maxHeartbeats 4000000 in
set_option maxRecDepth 100000 in
theorem rright_any (v : Value) (l : List En) (w : World) (h : Row encP 2 w v l) (hl : l.length ≤ 9223372036854775807) :
    Calls Try.prog 29 #[v] w fun e w' => e = .returned (.bool (rgB l)) ∧ Below w.heap.size w w' := by
  obtain ⟨ao, cap, rfl, h1, h2, h3⟩ := h
  have H3 : Aside (l ≠ [] → ∃ b off, ao = some ⟨b, off, none⟩ ∧ b < w.heap.size ∧ CellsK encP 2 w b off l) := h3
  clear h3
  go_enter Try.func29, Try.ntmps29
  go_wp2
  go_loopg [3] l.length (fun kx s3 wr => ∃ (i : Nat), s3 = .int .i64 i ∧ i ≤ l.length ∧ l.length - i ≤ kx ∧ Hid (GR w wr) ∧ Hid (∀ j, j < i → okE l j = true))
  case atStart => exact ⟨0, rfl, Nat.zero_le _, Nat.le_refl _, GR.refl _, fun j hj => absurd hj (Nat.not_lt_zero _)⟩
  case round =>
    obtain ⟨i, rfl, hi, hki, HG, HN⟩ := hrel
    by_cases hil : i < l.length
    · have hilz : (i : Int) < (l.length : Int) := by omega
      obtain ⟨b, off, rfl, hb, x1, x2⟩ := row_at H3.out i hil HG.out.below
      obtain ⟨x, hx⟩ : ∃ x, l[i]! = x := ⟨_, rfl⟩
      rw [hx] at x1 x2
      have X : Hid (l[i]! = x) := hx
      clear hx
      cases hm : mayB x.1 x.2
      · have Q1 : Hid _ := may_q x.1 x.2 false hm wr
        have RF : Hid (rgB l = false) := rgB_no i hil (okE_of (b := false) (c := (i == 0 || ltK l[i - 1]!.1 l[i]!.1)) (by rw [X.out]; exact hm) rfl)
        clear HN hm
        go_wp2_with fail
        go_quiet ((go_at_call 30; with_reducible exact Q1.out _))
        go_wp2_with fail
        go_quiet (fail)
        go_wp2
        go_ret
        exact ⟨ret_b RF.out.symm, ((HG.out.drewN _).drewN _).below⟩
      · have Q1 : Hid _ := may_q x.1 x.2 true hm wr
        have M : Hid (mayB x.1 x.2 = true) := hm
        clear hm
        rcases Nat.eq_zero_or_pos i with hi0 | hi0
        · have N2 : Hid (∀ j, j < i + 1 → okE l j = true) := fun j hj => by
            obtain rfl : j = i := by omega
            rw [okE_of (b := true) (c := true) (by rw [X.out]; exact M.out) (by rw [hi0]; rfl)]; rfl
          have hd : decide ((0 : Int) < (i : Int)) = false := by rw [hi0]; decide
          have hd2 : decide (0 < i) = false := by rw [hi0]; decide
          clear HN hi0
          go_wp2_with fail
          go_quiet ((go_at_call 30; with_reducible exact Q1.out _))
          go_wp2_with fail
          go_quiet (fail)
          go_wp2
          go_roundg (l.length - (i + 1))
          case measure => omega
          case rel => exact ⟨i + 1, by go_num, by omega, Nat.le_refl _, HG.out.drewN _, N2⟩
        · obtain ⟨i, rfl⟩ : ∃ i', i = i' + 1 := ⟨i - 1, by omega⟩
          clear hi0
          obtain ⟨b2, off2, e2, hb2, z1, _⟩ := row_at H3.out i (by omega) HG.out.below
          cases e2
          obtain ⟨y, hy⟩ : ∃ y, l[i]! = y := ⟨_, rfl⟩
          rw [hy] at z1
          have Y : Hid (l[i]! = y) := hy
          clear hy
          cases hlt : ltK y.1 x.1
          · have RF : Hid (rgB l = false) := rgB_no (i + 1) hil (okE_of (b := true) (c := false) (by rw [X.out]; exact M.out) (by
              rw [show i + 1 - 1 = i from rfl, X.out, Y.out, hlt]; rfl))
            have hlt2 : Op.bytesLess y.1.toList x.1.toList = false := hlt
            clear HN hlt
            go_wp2_with fail
            go_quiet ((go_at_call 30; with_reducible exact Q1.out _))
            go_wp2_with fail
            go_quiet (fail)
            go_wp2
            go_ret
            exact ⟨ret_b RF.out.symm, ((HG.out.drewN _).drewN _).below⟩
          · have N2 : Hid (∀ j, j < i + 1 + 1 → okE l j = true) := fun j hj => by
              rcases Nat.lt_or_ge j (i + 1) with c | c
              · exact HN.out j c
              · obtain rfl : j = i + 1 := by omega
                rw [okE_of (b := true) (c := true) (by rw [X.out]; exact M.out) (by rw [show i + 1 - 1 = i from rfl, X.out, Y.out, hlt]; simp)]; rfl
            have hlt2 : Op.bytesLess y.1.toList x.1.toList = true := hlt
            clear HN hlt
            go_wp2_with fail
            go_quiet ((go_at_call 30; with_reducible exact Q1.out _))
            go_wp2_with fail
            go_quiet (fail)
            go_wp2
            go_roundg (l.length - (i + 1 + 1))
            case measure => omega
            case rel => exact ⟨i + 1 + 1, by go_num, by omega, Nat.le_refl _, HG.out.drewN _, N2⟩
    · have hilz : ¬ (i : Int) < (l.length : Int) := by omega
      obtain rfl : i = l.length := by omega
      have RT : Hid (rgB l = true) := rgB_yes HN.out
      clear HN
      go_wp2
      go_ret
      exact ⟨ret_b RT.out.symm, HG.out.below⟩

theorem gt_drop {l : List En} {k : ByteArray} {i : Nat} (h : i < l.length) : gtV (l.drop i) k = (if l[i]!.1 = k then l[i]!.2 else gtV (l.drop (i + 1)) k) ∧ fdB (l.drop i) k = (decide (l[i]!.1 = k) || fdB (l.drop (i + 1)) k) := by
  rw [drop_here h]
  exact ⟨rfl, by simp [fdB]⟩

set_option maxHeartbeats 2000000 in
set_option maxRecDepth 100000 in
theorem rget_any (v : Value) (l : List En) (k : ByteArray) (w : World) (h : Row encP 2 w v l) (hl : l.length ≤ 1000000) :
    Calls Try.prog 28 #[v, .string k] w fun e w' => e = .returned (.tuple #[.string (gtV l k), .bool (fdB l k)]) ∧ w = w' := by
  obtain ⟨ao, cap, rfl, h1, h2, h3⟩ := h
  have H3 : Aside (l ≠ [] → ∃ b off, ao = some ⟨b, off, none⟩ ∧ b < w.heap.size ∧ CellsK encP 2 w b off l) := h3
  clear h3
  go_enter Try.func28, Try.ntmps28
  go_wp2
  go_loopg [6] l.length (fun kx s6 wr => ∃ (i : Nat), s6 = .int .i64 i ∧ i ≤ l.length ∧ l.length - i ≤ kx ∧ w = wr ∧ Hid (gtV l k = gtV (l.drop i) k ∧ fdB l k = fdB (l.drop i) k))
  case atStart => exact ⟨0, rfl, Nat.zero_le _, Nat.le_refl _, rfl, rfl, rfl⟩
  case round =>
    obtain ⟨i, rfl, hi, hki, rfl, HN⟩ := hrel
    by_cases hil : i < l.length
    · have hilz : (i : Int) < (l.length : Int) := by omega
      obtain ⟨b, off, rfl, hb, x1, x2⟩ := row_at H3.out i hil (Below.refl _ w)
      have T : Hid _ := gt_drop (k := k) hil
      generalize l[i]! = x at *
      by_cases he : x.1 = k
      · have hs : (x.1.toList == k.toList) = true := by rw [he]; simp
        have E : Hid (gtV l k = x.2 ∧ fdB l k = true) := by
          obtain ⟨t1, t2⟩ := T.out
          rw [if_pos he] at t1
          rw [decide_eq_true he, Bool.true_or] at t2
          exact ⟨HN.out.1.trans t1, HN.out.2.trans t2⟩
        have he2 : x.1.toList = k.toList := by rw [he]
        clear HN T he
        go_wp2
        go_ret2
        exact ⟨by rw [E.out.1, E.out.2]; rfl, rfl⟩
      · have hs : (x.1.toList == k.toList) = false := str_no he
        have he2 : ¬ x.1.toList = k.toList := fun e => he (baL_inj e)
        have N2 : Hid (gtV l k = gtV (l.drop (i + 1)) k ∧ fdB l k = fdB (l.drop (i + 1)) k) := by
          obtain ⟨t1, t2⟩ := T.out
          rw [if_neg he] at t1
          rw [decide_eq_false he, Bool.false_or] at t2
          exact ⟨HN.out.1.trans t1, HN.out.2.trans t2⟩
        clear HN T he
        go_wp2
        go_roundg (l.length - (i + 1))
        case measure => omega
        case rel => exact ⟨i + 1, by go_num, by omega, Nat.le_refl _, rfl, N2⟩
    · have hilz : ¬ (i : Int) < (l.length : Int) := by omega
      obtain rfl : i = l.length := by omega
      rw [List.drop_length] at HN
      go_wp2
      go_ret2
      exact ⟨by rw [HN.out.1, HN.out.2]; rfl, rfl⟩

theorem dl_take {l : List En} {k : ByteArray} {i : Nat} (h : i < l.length) : dlL (l.take (i + 1)) k = dlL (l.take i) k ++ (if l[i]!.1 = k then [] else [l[i]!]) := by
  rw [take_next h]
  unfold dlL
  rw [List.filter_append]
  congr 1
  generalize l[i]! = x
  by_cases c : x.1 = k
  · rw [if_pos c]; simp [c]
  · rw [if_neg c]; simp [c]
theorem dl_len (l : List En) (k : ByteArray) : (dlL l k).length ≤ l.length := List.length_filter_le _ _

theorem ltK_not {a b : ByteArray} : ltK a b = !(ltK b a || decide (b = a)) := by
  cases h : ltK a b
  · by_cases e : b = a
    · simp [e]
    · rw [ltK_of_not h fun e2 => e e2.symm]; rfl
  · rw [ltK_asymm h, decide_eq_false fun e => ltK_ne h e.symm]; rfl

theorem ins_drop {r : List En} {x : En} {i : Nat} (h : i < r.length) : insL x (r.drop i) = (if ltK x.1 r[i]!.1 = true then x :: r[i]! :: r.drop (i + 1) else r[i]! :: insL x (r.drop (i + 1))) := by
  rw [drop_here h]; rfl

set_option maxHeartbeats 2000000 in
set_option maxRecDepth 100000 in
theorem rsize_any (v : Value) (l : List En) (w : World) (h : Row encP 2 w v l) (hl : l.length ≤ 1000000) (hs : szL l ≤ 1000000000) :
    Calls Try.prog 31 #[v] w fun e w' => e = .returned (.int .i64 (szL l)) ∧ Below w.heap.size w w' := by
  obtain ⟨ao, cap, rfl, h1, h2, h3⟩ := h
  have H3 : Aside (l ≠ [] → ∃ b off, ao = some ⟨b, off, none⟩ ∧ b < w.heap.size ∧ CellsK encP 2 w b off l) := h3
  clear h3
  go_enter Try.func31, Try.ntmps31
  go_wp2
  go_loopg [3, 4] l.length (fun kx s3 s4 wr => ∃ (i n : Nat), s3 = .int .i64 n ∧ s4 = .int .i64 i ∧ i ≤ l.length ∧ l.length - i ≤ kx ∧ Hid (szL (l.take i) = n) ∧ Hid (GR w wr))
  case atStart => exact ⟨0, 0, rfl, rfl, Nat.zero_le _, Nat.le_refl _, rfl, GR.refl _⟩
  case round =>
    obtain ⟨i, n, rfl, rfl, hi, hki, HS, HG⟩ := hrel
    by_cases hil : i < l.length
    · have hilz : (i : Int) < (l.length : Int) := by omega
      obtain ⟨b, off, rfl, hb, x1, x2⟩ := row_at H3.out i hil HG.out.below
      have hle := szE_le hil
      have T : Hid (szL (l.take (i + 1)) = szL (l.take i) + szE l[i]!) := szL_snoc hil
      rw [HS.out] at T hle
      generalize l[i]! = x at *
      unfold szE at T hle
      have hx : n + (2 + x.1.size + x.2.size) ≤ 1000000000 := by omega
      clear hle
      go_wp2_with fail
      go_quiet (fail)
      go_wp2
      go_roundg (l.length - (i + 1))
      case measure => omega
      case rel => exact ⟨i + 1, n + (2 + x.1.size + x.2.size), by go_num, by go_num, by omega, Nat.le_refl _, T, HG.out.drewN _⟩
    · have hilz : ¬ (i : Int) < (l.length : Int) := by omega
      obtain rfl : i = l.length := by omega
      rw [List.take_length] at HS
      go_wp2
      go_ret
      exact ⟨ret_i (by rw [HS.out]), HG.out.below⟩

set_option maxHeartbeats 4000000 in
set_option maxRecDepth 100000 in
theorem rhalf_any (v : Value) (l : List En) (w : World) (h : Row encP 2 w v l) (hl : l.length ≤ 1000000) (hs : szL l ≤ 1000000000) :
    Calls Try.prog 50 #[v] w fun e w' => e = .returned (.int .i64 (hfN l)) ∧ Below w.heap.size w w' := by
  by_cases h2l : l.length < 2
  · obtain ⟨ao, c, rfl, _⟩ := h.shape
    rw [hfN_short h2l]
    have hz : (l.length : Int) < 2 := by omega
    clear h
    go_enter Try.func50, Try.ntmps50
    go_wp2
    go_ret
    exact ⟨rfl, Below.refl _ _⟩
  · have H : Aside (Row encP 2 w v l) := h
    obtain ⟨ao, cap, rfl, hcap⟩ := h.shape
    obtain ⟨S, hS⟩ : ∃ S, szL l = S := ⟨_, rfl⟩
    have HSS : Hid (szL l = S) := hS
    rw [hS] at hs
    have hz : ¬ ((l.length : Int) < 2) := by omega
    clear hS h
    go_enter Try.func50, Try.ntmps50
    go_wp2
    go_loopg [3] l.length (fun kx s3 wr => ∃ (i : Nat), s3 = .int .i64 i ∧ 1 ≤ i ∧ i ≤ l.length ∧ l.length - i ≤ kx ∧ Hid (∀ j, j < i - 1 → hfB l j = false) ∧ Hid (Below w.heap.size w wr))
    case atStart => exact ⟨1, rfl, Nat.le_refl _, by omega, by omega, fun j hj => by omega, Below.refl _ _⟩
    case round =>
      obtain ⟨i, rfl, hi1, hi, hki, HN, HB⟩ := hrel
      by_cases hil : i < l.length
      · have hilz : (i : Int) < (l.length : Int) := by omega
        have e1 := run_pre ao l.length cap i (by omega)
        have C1 : Hid _ := rsize_any _ (l.take i) wr ((H.out.below HB.out).pre i (by omega)) (by simp; omega) (by have := szL_take_le l i; have := HSS.out; omega)
        have hfl := szL_take_le l i
        rw [HSS.out] at hfl
        obtain ⟨f, hf⟩ : ∃ f, szL (l.take i) = f := ⟨_, rfl⟩
        rw [hf] at C1 hfl
        have F : Hid (szL (l.take i) = f) := hf
        clear hf
        go_wp2_with fail
        refine Calls.mono C1.out ?_
        rintro e w2 ⟨rfl, hb2⟩
        have B2 : Hid (Below w.heap.size w w2) := HB.out.trans (hb2.mono HB.out.size)
        have C2 : Hid _ := rsize_any _ l w2 (H.out.below B2.out) hl (by rw [HSS.out]; exact hs)
        rw [HSS.out] at C2
        clear hb2 C1
        go_wp2_with fail
        refine Calls.mono C2.out ?_
        rintro e w3 ⟨rfl, hb3⟩
        have B3 : Hid (Below w.heap.size w w3) := B2.out.trans (hb3.mono B2.out.size)
        clear hb3 C2
        obtain ⟨i, rfl⟩ : ∃ i', i = i' + 1 := ⟨i - 1, by omega⟩
        by_cases hc : S ≤ 2 * f
        · have hcz : (S : Int) ≤ 2 * (f : Int) := by omega
          have E : Hid (hfN l = i + 1) := hfN_here (by omega) HN.out (by unfold hfB; rw [HSS.out, F.out]; exact decide_eq_true hc)
          clear HN
          go_wp2
          go_ret
          exact ⟨ret_i (by rw [E.out]; omega), B3.out⟩
        · have hcz : ¬ (S : Int) ≤ 2 * (f : Int) := by omega
          have N2 : Hid (∀ j, j < i + 1 + 1 - 1 → hfB l j = false) := fun j hj => by
            rcases Nat.lt_or_ge j i with d | d
            · exact HN.out j d
            · obtain rfl : j = i := by omega
              unfold hfB; rw [HSS.out, F.out]; exact decide_eq_false hc
          clear HN
          go_wp2
          go_roundg (l.length - (i + 1 + 1))
          case measure => omega
          case rel => exact ⟨i + 1 + 1, by go_num, by omega, by omega, Nat.le_refl _, N2, B3⟩
      · have hilz : ¬ (i : Int) < (l.length : Int) := by omega
        obtain rfl : i = l.length := by omega
        have E : Hid (hfN l = l.length - 1) := hfN_end HN.out
        clear HN
        go_wp2
        go_ret
        exact ⟨ret_i (by rw [E.out]; omega), HB.out⟩

end Go.Proofs.Ytmamnlphhiaeoaa
