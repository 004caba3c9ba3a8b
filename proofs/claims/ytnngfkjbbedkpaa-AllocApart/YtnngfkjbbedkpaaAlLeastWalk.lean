/-
  The walk of AllocLeast.
-/
import Derived.Test.YtnngfkjbbedkpaaAlWorks
import Derived.Test.YtnngfkjbbedkpaaBRunsD
import Derived.Deep.LoopGhost
namespace Go.Proofs.Ytnngfkjbbedkpaa
open Go.Shelf Go.RowKit Go.Lib Go.Sort
set_option linter.unusedVariables false

/-- A row of numbers, each one that a number may be. -/
def IntRowW (w : World) (v : Value) (l : List Int) : Prop := IntRow w v l ∧ ∀ k ∈ l, Wf k

theorem alloc_cases (x : TX) (room : Nat) : (fstB x.free = true ∧ (x.alloc room).1 = (fstN x.free, 0) ∧ (x.alloc room).2.pages = x.pages) ∨ (fstB x.free = false ∧ room ≤ x.pages ∧ (x.alloc room).1 = (0, 2) ∧ (x.alloc room).2.pages = x.pages) ∨ (fstB x.free = false ∧ x.pages < room ∧ (x.alloc room).1 = ((x.pages : Int), 0) ∧ (x.alloc room).2.pages = x.pages + 1) := by
  obtain ⟨fr, p, g, c⟩ := x
  cases fr with
  | cons r s => exact .inl ⟨rfl, rfl, rfl⟩
  | nil =>
    by_cases h : room ≤ p
    · exact .inr (.inl ⟨rfl, h, by simp [TX.alloc, h], by simp [TX.alloc, h]⟩)
    · exact .inr (.inr ⟨rfl, by simp only; omega, by simp [TX.alloc, h], by simp [TX.alloc, h]⟩)
theorem alloc_cnt (x : TX) (room : Nat) : (x.alloc room).2.cnt ≤ x.cnt + 1 := by
  obtain ⟨fr, p, g, c⟩ := x
  cases fr with
  | cons r s => exact Nat.le_refl _
  | nil =>
    by_cases h : room ≤ p
    · simp [TX.alloc, h]
    · simp [TX.alloc, h]
theorem drop_fresh (x : TX) (q : Int) : ((x.drop q).fresh q).isSome = false := by
  unfold TX.drop
  by_cases h : (x.fresh q).isSome = true
  · rw [if_pos h]; simp [delF]
  · rw [if_neg h]; simpa using h
theorem drop_has {x : TX} {room : Nat} (ok : x.Ok room) (hr : room ≤ 16384) (q : Int) (h : (x.fresh q).isSome = true) : hasB (x.drop q).free q = true := by
  unfold TX.drop
  rw [if_pos h]
  have h1 := ok.fs q h
  have h2 := ok.pr
  refine hasB_yes ((unL_in _ _ _).2 (.inr ((inR_one _ _).2 ?_)))
  simp only
  omega
theorem drop_cnt (x : TX) (q : Int) : (x.drop q).cnt = x.cnt := by
  unfold TX.drop
  split <;> rfl
theorem room_le {d : Dk} (h : d.Ok) : d.room ≤ 16384 := by have := h.len; unfold Dk.room; omega
theorem room_ge (d : Dk) : 2 ≤ d.room := by unfold Dk.room; omega

set_option maxRecDepth 100000 in
set_option maxHeartbeats 8000000 in
theorem allocLeast (sectors : Int) (fv : Value) (fr : List Pr) (pages : Int) (dv : Value) (drop : List Int) (w : World) (hs : -9223372036854775808 ≤ sectors ∧ sectors ≤ 9223372036854775807) (hF : Row encP 2 w fv fr) (hp : -9223372036854775808 ≤ pages ∧ pages ≤ 9223372036854775807) (hDW : IntRowW w dv drop) :
    Calls Try.prog 4 #[.int .i64 sectors, fv, .int .i64 pages, dv] w fun e w' => e = .returned (.bool true) ∧ Below w.heap.size w w' := by
  obtain ⟨hD, hW⟩ := hDW
  obtain ⟨fa, fc, rfl, _⟩ := id hF
  obtain ⟨ao, ca, rfl, _⟩ := id hD
  have HF : Aside (Row encP 2 w (.slice fa fr.length fc) fr) := hF
  have HN : Aside (IntRow w (.slice ao drop.length ca) drop) := hD
  have HW : Hid (∀ i, i < drop.length → Wf (drop.getD i 0)) := fun i hi => hW _ (by rw [List.getD_eq_getElem?_getD, List.getElem?_eq_getElem hi]; exact List.getElem_mem hi)
  have CW : Hid _ := works_any w
  clear hF hD hW hs hp
  by_cases h30 : (30 : Int) < sectors
  · go_enter Try.func4, Try.ntmps4
    go_wp2_with fail
    refine Calls.mono CW.out ?_
    rintro e w1 ⟨rfl, b1⟩
    have B1 : Hid (Below w.heap.size w w1) := b1
    clear b1 CW
    go_wp2
    go_ret
    exact ⟨rfl, B1.out⟩
  · by_cases h31 : (100 : Int) < fr.length
    · go_enter Try.func4, Try.ntmps4
      go_wp2_with fail
      refine Calls.mono CW.out ?_
      rintro e w1 ⟨rfl, b1⟩
      have B1 : Hid (Below w.heap.size w w1) := b1
      clear b1 CW
      go_wp2
      go_ret
      exact ⟨rfl, B1.out⟩
    · by_cases h32 : (100 : Int) < drop.length
      · go_enter Try.func4, Try.ntmps4
        go_wp2_with fail
        refine Calls.mono CW.out ?_
        rintro e w1 ⟨rfl, b1⟩
        have B1 : Hid (Below w.heap.size w w1) := b1
        clear b1 CW
        go_wp2
        go_ret
        exact ⟨rfl, B1.out⟩
      · have hf100 : fr.length ≤ 100 := by omega
        have hd100 : drop.length ≤ 100 := by omega
        go_enter Try.func4, Try.ntmps4
        go_wp2_with fail
        refine Calls.mono CW.out ?_
        rintro e w1 ⟨rfl, b1⟩
        have S1 : Hid (Sep w.heap.size w w1 []) := Sep.nil b1.size b1
        clear b1 CW
        have CD : Hid _ := new_s sectors S1.out
        go_wp2_with fail
        refine Calls.mono CD.out ?_
        rintro e w2 ⟨b, rfl, s2⟩
        have CF : Hid _ := new_f s2
        have HOK : Hid (Dk.Ok (Dk.new sectors)) := s2.ok
        generalize Dk.new sectors = d at *
        clear CD S1 s2
        go_wp2_with fail
        refine Calls.mono CF.out ?_
        rintro e w3 ⟨f, rfl, s3⟩
        have hrm := room_le HOK.out
        have hr2 := room_ge d
        have CT : Hid _ := tnew s3 hrm (HF.out.below s3.bel) (by omega) pages
        have OK0 : Hid ((TX.new fr pages d.room).Ok d.room) := TX.new_ok fr pages hr2
        have CN0 : Hid ((TX.new fr pages d.room).cnt ≤ 0) := Nat.le_refl _
        generalize TX.new fr pages d.room = x0 at *
        clear CF s3 HOK HF
        go_wp2_with fail
        refine Calls.mono CT.out ?_
        rintro e w4 ⟨t, rfl, s4⟩
        have S4 : Hid (Sep w.heap.size w w4 (Tx t f x0 :: File f b d :: [])) := s4
        clear CT s4
        go_wp2
        go_loopg [11] drop.length (fun kx s8 wr => ∃ (i : Nat) (x : TX), s8 = .int .i64 i ∧ i ≤ drop.length ∧ drop.length - i ≤ kx ∧ Hid (Sep w.heap.size w wr (Tx t f x :: File f b d :: [])) ∧ Hid (x.Ok d.room) ∧ Hid (x.cnt ≤ i))
        case atStart => exact ⟨0, x0, rfl, Nat.zero_le _, Nat.le_refl _, S4, OK0, CN0⟩
        case round =>
          obtain ⟨i, x, rfl, hi, hki, SR, OKR, CNR⟩ := hrel
          clear S4 OK0 CN0
          by_cases hil : i < drop.length
          · have hilz : (i : Int) < (drop.length : Int) := by omega
            obtain ⟨r, o, rfl, hr, hc⟩ := (HN.out.below SR.out.bel (Nat.le_refl _)).at hil
            have HC : Hid (∀ u, Below w.heap.size w u → u.cell? ⟨r, o + i, none⟩ = some (.int .i64 (drop.getD i 0)) ∧ r < u.heap.size) := fun u hu => by
              obtain ⟨r', o', e', hr', hc'⟩ := (HN.out.below hu (Nat.le_refl _)).at hil
              cases e'
              exact ⟨hc', hr'⟩
            have hq := HW.out i hil
            generalize drop.getD i 0 = q at *
            have QW : Hid (Wf q) := hq
            have hcn := CNR.out
            have hpz := OKR.out.pr
            have hp2 := OKR.out.p2
            have C1 : Hid _ := tpages SR.out hp2
            have C2 : Hid _ := tfree SR.out OKR.out.cn (by have := OKR.out.len; omega)
            have CA : Hid (∀ u, Sep w.heap.size w u (Tx t f x :: File f b d :: []) → _) := fun u hu => talloc hu OKR.out hrm (by omega)
            have OK2 : Hid ((x.alloc d.room).2.Ok d.room) := TX.alloc_ok OKR.out
            have CN2 : Hid ((x.alloc d.room).2.cnt ≤ i + 1) := Nat.le_trans (alloc_cnt x d.room) (by omega)
            have AC := alloc_cases x d.room
            have CN : Hid (Cn x.free) := OKR.out.cn
            have CL : Hid (x.free.length ≤ 16384) := by have := OKR.out.len; show _ ≤ _; omega
            clear hc hr hq hcn OKR CNR
            go_wp2_with fail
            refine Calls.mono C1.out ?_
            rintro e w5 ⟨rfl, rfl⟩
            clear C1
            go_wp2_with fail
            refine Calls.mono C2.out ?_
            rintro e w6 ⟨ao6, n6, c6, rfl, r6, b6⟩
            have C3 := first_any _ _ w6 r6.row (by have := CL.out; omega)
            rw [nmL_of_cn CN.out] at C3
            have C4 : Hid _ := C3
            have S6 : Hid (Sep w.heap.size w w6 (Tx t f x :: File f b d :: [])) := SR.out.below b6
            clear C2 SR r6 b6 C3
            go_wp2_with fail
            refine Calls.mono C4.out ?_
            rintro e w7 ⟨rfl, b7⟩
            have C5 : Hid _ := CA.out w7 (S6.out.below b7)
            clear C4 S6 b7 CA CN CL
            generalize x.free = xf at *
            generalize fstN xf = ln at *
            generalize fstB xf = lb at *
            generalize x.alloc d.room = R at *
            obtain ⟨⟨id, er⟩, x2⟩ := R
            dsimp only at OK2 CN2 AC C5
            generalize hxp : x.pages = xp at *
            rcases AC with ⟨rfl, hae, hap⟩ | ⟨rfl, hle, hae, hap⟩ | ⟨rfl, hle, hae, hap⟩
            · obtain ⟨rfl, rfl⟩ : id = ln ∧ er = 0 := by simpa using hae
              clear hae
              go_wp2_with fail
              refine Calls.mono C5.out ?_
              rintro e w8 ⟨rfl, s8⟩
              have S8 : Hid (Sep w.heap.size w w8 (Tx t f x2 :: File f b d :: [])) := s8
              have C6 := tpages s8 OK2.out.p2
              rw [hap] at C6
              have C7 : Hid _ := C6
              clear C5 s8 C6
              go_wp2_with fail
              refine Calls.mono C7.out ?_
              rintro e w9 ⟨rfl, rfl⟩
              clear C7
              have C8 : Hid _ := tfresh S8.out QW.out
              obtain ⟨k0, k1⟩ := HC.out _ S8.out.bel
              go_wp2_with fail
              refine Calls.mono C8.out ?_
              rintro e w10 ⟨rfl, b10⟩
              have s10 : Sep w.heap.size w w10 (Tx t f x2 :: File f b d :: []) := S8.out.below b10
              have C9 : Hid _ := tdrop s10 QW.out (by have := OK2.out.len; have := OK2.out.pr; omega)
              obtain ⟨k2, k3⟩ := HC.out _ s10.bel
              have OK3 : Hid ((x2.drop q).Ok d.room) := TX.drop_ok OK2.out q
              have CN3 : Hid ((x2.drop q).cnt ≤ i + 1) := by show _ ≤ _; rw [drop_cnt]; exact CN2.out
              have DF := drop_fresh x2 q
              have DH := drop_has OK2.out hrm q
              generalize (x2.fresh q).isSome = is at *
              generalize x2.drop q = x3 at *
              clear C8 b10 s10 S8 OK2 CN2 k0 k1
              go_wp2_with fail
              refine Calls.mono C9.out ?_
              rintro e w11 ⟨rfl, s11⟩
              have hl3 := OK3.out.len
              have hp3 := OK3.out.pr
              have SD : Hid (Sep w.heap.size w w11.drew (Tx t f x3 :: File f b d :: [])) := s11.drew
              have C10 := tfresh SD.out QW.out
              rw [DF] at C10
              have C11 : Hid _ := C10
              have CF3 : Hid (∀ u, Sep w.heap.size w u (Tx t f x3 :: File f b d :: []) → Calls Try.prog 15 #[ptr t] u (GivesO u x3.free)) := fun u hu => tfree hu OK3.out.cn (by omega)
              have CH3 : Hid (∀ u ao n c, Row encP 2 u (.slice ao n c) x3.free → Calls Try.prog 12 #[.slice ao n c, .int .i64 q] u fun e w' => e = .returned (.bool (hasB x3.free q)) ∧ Below u.heap.size u w') := fun u ao n c hu => has_any _ _ q u hu (by omega)
              have k4 := (HC.out _ SD.out.bel).1
              clear C9 s11 C10 k2 k3 DF
              cases is with
              | true =>
                rw [DH rfl] at CH3
                clear DH
                go_wp2_with fail
                refine wp_region_held_drew (S := fun w' => w'.cell? ⟨r, o + i, none⟩ = some (.int .i64 q)) (by kernel_rfl) k4 (fun hHeld => ?_)
                refine wpAnyH_take (i := 0) (v := ptr t) rfl (by kernel_rfl) (by kernel_rfl) (by kernel_rfl) (fun _ _ _ h => h) (Or.inl ⟨by rfl, fun w4 hSw => by (try dsimp only at hSw); go_simp⟩) hHeld ?_
                show wpAnyH _ _ _ _ _ _ _ (Act.put _ (some 105) (ptr t)) _
                simp only [Act.put, List.setIfInBounds_toArray, List.set_cons_zero, List.set_cons_succ]
                refine wpAnyH_take (i := 1) (v := .slice (some ⟨r, o, none⟩) drop.length ca) rfl (by kernel_rfl) (by kernel_rfl) (by kernel_rfl) (fun _ _ _ h => h) (Or.inl ⟨by rfl, fun w4 hSw => by (try dsimp only at hSw); go_simp⟩) hHeld ?_
                show wpAnyH _ _ _ _ _ _ _ (Act.put _ (some 106) (.slice (some ⟨r, o, none⟩) drop.length ca)) _
                simp only [Act.put, List.setIfInBounds_toArray, List.set_cons_zero, List.set_cons_succ]
                refine wpAnyH_take (i := 2) (v := .int .i64 (i : Int)) rfl (by kernel_rfl) (by kernel_rfl) (by kernel_rfl) (fun _ _ _ h => h) (Or.inl ⟨by rfl, fun w4 hSw => by (try dsimp only at hSw); go_simp⟩) hHeld ?_
                show wpAnyH _ _ _ _ _ _ _ (Act.put _ (some 107) (.int .i64 (i : Int))) _
                simp only [Act.put, List.setIfInBounds_toArray, List.set_cons_zero, List.set_cons_succ]
                refine wpAnyH_take (i := 3) (v := .pointer (some ⟨r, o + i, none⟩)) rfl (by kernel_rfl) (by kernel_rfl) (by kernel_rfl) (fun _ _ _ h => h) (Or.inl ⟨by rfl, fun w4 hSw => by (try dsimp only at hSw); go_simp⟩) hHeld ?_
                show wpAnyH _ _ _ _ _ _ _ (Act.put _ (some 108) (.pointer (some ⟨r, o + i, none⟩))) _
                simp only [Act.put, List.setIfInBounds_toArray, List.set_cons_zero, List.set_cons_succ]
                refine wpAnyH_take (i := 4) (v := .int .i64 q) rfl (by kernel_rfl) (by kernel_rfl) (by kernel_rfl) (fun _ _ _ h => h) (Or.inl ⟨by rfl, fun w4 hSw => by (try dsimp only at hSw); go_simp⟩) hHeld ?_
                show wpAnyH _ _ _ _ _ _ _ (Act.put _ (some 109) (.int .i64 q)) _
                simp only [Act.put, List.setIfInBounds_toArray, List.set_cons_zero, List.set_cons_succ]
                refine wpAnyH_ready (rs := [5]) (by kernel_rfl) (by simp) ?_
                refine AllReadyH.cons rfl (fun K hK => ?_) AllReadyH.nil
                go_simp
                refine Calls.mono C11.out ?_
                rintro e w12 ⟨rfl, b12⟩
                have s12 := Sep.below SD.out b12
                have SX : Hid (Sep w.heap.size w w12 (Tx t f x3 :: File f b d :: [])) := s12
                have k5 := (HC.out _ s12.bel).1
                clear s12 b12 SD C11
                refine hK.out _ _ k5 (fun hHeld2 => ?_)
                clear hHeld hK K
                have hHeld := hHeld2
                clear hHeld2
                refine wpAnyH_take (i := 6) (v := .bool false) rfl (by kernel_rfl) (by kernel_rfl) (by kernel_rfl) (fun _ _ _ h => h) (Or.inl ⟨by rfl, fun w4 hSw => by (try dsimp only at hSw); go_simp⟩) hHeld ?_
                show wpAnyH _ _ _ _ _ _ _ (Act.put _ (some 111) (.bool false)) _
                simp only [Act.put, List.setIfInBounds_toArray, List.set_cons_zero, List.set_cons_succ]
                refine wpAnyH_take (i := 7) (v := ptr t) rfl (by kernel_rfl) (by kernel_rfl) (by kernel_rfl) (fun _ _ _ h => h) (Or.inl ⟨by rfl, fun w4 hSw => by (try dsimp only at hSw); go_simp⟩) hHeld ?_
                show wpAnyH _ _ _ _ _ _ _ (Act.put _ (some 112) (ptr t)) _
                simp only [Act.put, List.setIfInBounds_toArray, List.set_cons_zero, List.set_cons_succ]
                refine wpAnyH_take (i := 9) (v := .slice (some ⟨r, o, none⟩) drop.length ca) rfl (by kernel_rfl) (by kernel_rfl) (by kernel_rfl) (fun _ _ _ h => h) (Or.inl ⟨by rfl, fun w4 hSw => by (try dsimp only at hSw); go_simp⟩) hHeld ?_
                show wpAnyH _ _ _ _ _ _ _ (Act.put _ (some 114) (.slice (some ⟨r, o, none⟩) drop.length ca)) _
                simp only [Act.put, List.setIfInBounds_toArray, List.set_cons_zero, List.set_cons_succ]
                refine wpAnyH_take (i := 10) (v := .int .i64 (i : Int)) rfl (by kernel_rfl) (by kernel_rfl) (by kernel_rfl) (fun _ _ _ h => h) (Or.inl ⟨by rfl, fun w4 hSw => by (try dsimp only at hSw); go_simp⟩) hHeld ?_
                show wpAnyH _ _ _ _ _ _ _ (Act.put _ (some 115) (.int .i64 (i : Int))) _
                simp only [Act.put, List.setIfInBounds_toArray, List.set_cons_zero, List.set_cons_succ]
                refine wpAnyH_take (i := 11) (v := .pointer (some ⟨r, o + i, none⟩)) rfl (by kernel_rfl) (by kernel_rfl) (by kernel_rfl) (fun _ _ _ h => h) (Or.inl ⟨by rfl, fun w4 hSw => by (try dsimp only at hSw); go_simp⟩) hHeld ?_
                show wpAnyH _ _ _ _ _ _ _ (Act.put _ (some 116) (.pointer (some ⟨r, o + i, none⟩))) _
                simp only [Act.put, List.setIfInBounds_toArray, List.set_cons_zero, List.set_cons_succ]
                refine wpAnyH_take (i := 12) (v := .int .i64 q) rfl (by kernel_rfl) (by kernel_rfl) (by kernel_rfl) (fun _ _ _ h => h) (Or.inl ⟨by rfl, fun w4 hSw => by (try dsimp only at hSw); go_simp⟩) hHeld ?_
                show wpAnyH _ _ _ _ _ _ _ (Act.put _ (some 117) (.int .i64 q)) _
                simp only [Act.put, List.setIfInBounds_toArray, List.set_cons_zero, List.set_cons_succ]
                refine wpAnyH_take (i := 14) (v := .bool true) rfl (by kernel_rfl) (by kernel_rfl) (by kernel_rfl) (fun _ _ _ h => h) (Or.inl ⟨by rfl, fun w4 hSw => by (try dsimp only at hSw); go_simp⟩) hHeld ?_
                show wpAnyH _ _ _ _ _ _ _ (Act.put _ (some 119) (.bool true)) _
                simp only [Act.put, List.setIfInBounds_toArray, List.set_cons_zero, List.set_cons_succ]
                refine wpAnyH_ready (rs := [8]) (by kernel_rfl) (by simp) ?_
                refine AllReadyH.cons rfl (fun K hK => ?_) AllReadyH.nil
                go_simp
                refine Calls.mono (CF3.out _ SX.out) ?_
                rintro e w13 ⟨ao4, n4, c4, rfl, r4, b4⟩
                have s13 := Sep.below SX.out b4
                have SY : Hid (Sep w.heap.size w w13 (Tx t f x3 :: File f b d :: [])) := s13
                have k6 := (HC.out _ s13.bel).1
                have C13 : Hid _ := CH3.out _ _ _ _ r4.row
                clear s13 r4 b4 SX
                refine hK.out _ _ k6 (fun hHeld2 => ?_)
                clear hHeld hK K
                have hHeld := hHeld2
                clear hHeld2
                refine wpAnyH_ready (rs := [13]) (by kernel_rfl) (by simp) ?_
                refine AllReadyH.cons rfl (fun K hK => ?_) AllReadyH.nil
                go_simp
                refine Calls.mono C13.out ?_
                rintro e w14 ⟨rfl, b14⟩
                have s14 := Sep.below SY.out b14
                have SZ : Hid (Sep w.heap.size w w14 (Tx t f x3 :: File f b d :: [])) := s14
                have k7 := (HC.out _ s14.bel).1
                clear s14 b14 SY C13
                refine hK.out _ _ k7 (fun hHeld2 => ?_)
                clear hHeld hK K
                have hHeld := hHeld2
                clear hHeld2
                refine wpAnyH_take (i := 15) (v := .bool true) rfl (by kernel_rfl) (by kernel_rfl) (by kernel_rfl) (fun _ _ _ h => h) (Or.inl ⟨by rfl, fun w4 hSw => by (try dsimp only at hSw); go_simp⟩) hHeld ?_
                show wpAnyH _ _ _ _ _ _ _ (Act.put _ (some 120) (.bool true)) _
                simp only [Act.put, List.setIfInBounds_toArray, List.set_cons_zero, List.set_cons_succ]
                refine wpAnyH_take (i := 16) (v := undef) rfl (by kernel_rfl) (by kernel_rfl) (by kernel_rfl) (fun _ _ _ h => h) (Or.inr ⟨by rfl, rfl⟩) hHeld ?_
                show wpAnyH _ _ _ _ _ _ _ (Act.put _ (some 121) (undef)) _
                simp only [Act.put, List.setIfInBounds_toArray, List.set_cons_zero, List.set_cons_succ]
                refine wpAnyH_take (i := 18) (v := undef) rfl (by kernel_rfl) (by kernel_rfl) (by kernel_rfl) (fun _ _ _ h => h) (Or.inr ⟨by rfl, rfl⟩) hHeld ?_
                show wpAnyH _ _ _ _ _ _ _ (Act.put _ (some 123) (undef)) _
                simp only [Act.put, List.setIfInBounds_toArray, List.set_cons_zero, List.set_cons_succ]
                refine wpAnyH_take (i := 19) (v := undef) rfl (by kernel_rfl) (by kernel_rfl) (by kernel_rfl) (fun _ _ _ h => h) (Or.inr ⟨by rfl, rfl⟩) hHeld ?_
                show wpAnyH _ _ _ _ _ _ _ (Act.put _ (some 124) (undef)) _
                simp only [Act.put, List.setIfInBounds_toArray, List.set_cons_zero, List.set_cons_succ]
                refine wpAnyH_take (i := 20) (v := undef) rfl (by kernel_rfl) (by kernel_rfl) (by kernel_rfl) (fun _ _ _ h => h) (Or.inr ⟨by rfl, rfl⟩) hHeld ?_
                show wpAnyH _ _ _ _ _ _ _ (Act.put _ (some 125) (undef)) _
                simp only [Act.put, List.setIfInBounds_toArray, List.set_cons_zero, List.set_cons_succ]
                refine wpAnyH_take (i := 21) (v := undef) rfl (by kernel_rfl) (by kernel_rfl) (by kernel_rfl) (fun _ _ _ h => h) (Or.inr ⟨by rfl, rfl⟩) hHeld ?_
                show wpAnyH _ _ _ _ _ _ _ (Act.put _ (some 126) (undef)) _
                simp only [Act.put, List.setIfInBounds_toArray, List.set_cons_zero, List.set_cons_succ]
                refine wpAnyH_take (i := 17) (v := undef) rfl (by kernel_rfl) (by kernel_rfl) (by kernel_rfl) (fun _ _ _ h => h) (Or.inr ⟨by rfl, rfl⟩) hHeld ?_
                show wpAnyH _ _ _ _ _ _ _ (Act.put _ (some 122) (undef)) _
                simp only [Act.put, List.setIfInBounds_toArray, List.set_cons_zero, List.set_cons_succ]
                refine wpAnyH_take (i := 22) (v := undef) rfl (by kernel_rfl) (by kernel_rfl) (by kernel_rfl) (fun _ _ _ h => h) (Or.inr ⟨by rfl, rfl⟩) hHeld ?_
                show wpAnyH _ _ _ _ _ _ _ (Act.put _ (some 127) (undef)) _
                simp only [Act.put, List.setIfInBounds_toArray, List.set_cons_zero, List.set_cons_succ]
                refine wpAnyH_take (i := 23) (v := .bool true) rfl (by kernel_rfl) (by kernel_rfl) (by kernel_rfl) (fun _ _ _ h => h) (Or.inl ⟨by rfl, fun w4 hSw => by (try dsimp only at hSw); go_simp⟩) hHeld ?_
                show wpAnyH _ _ _ _ _ _ _ (Act.put _ (some 128) (.bool true)) _
                simp only [Act.put, List.setIfInBounds_toArray, List.set_cons_zero, List.set_cons_succ]
                refine wpAnyH_take (i := 24) (v := .bool false) rfl (by kernel_rfl) (by kernel_rfl) (by kernel_rfl) (fun _ _ _ h => h) (Or.inl ⟨by rfl, fun w4 hSw => by (try dsimp only at hSw); go_simp⟩) hHeld ?_
                show wpAnyH _ _ _ _ _ _ _ (Act.put _ (some 129) (.bool false)) _
                simp only [Act.put, List.setIfInBounds_toArray, List.set_cons_zero, List.set_cons_succ]
                refine wpAnyH_take (i := 25) (v := .bool false) rfl (by kernel_rfl) (by kernel_rfl) (by kernel_rfl) (fun _ _ _ h => h) (Or.inl ⟨by rfl, fun w4 hSw => by (try dsimp only at hSw); go_simp⟩) hHeld ?_
                show wpAnyH _ _ _ _ _ _ _ (Act.put _ (some 130) (.bool false)) _
                simp only [Act.put, List.setIfInBounds_toArray, List.set_cons_zero, List.set_cons_succ]
                refine wpAnyH_done (by kernel_rfl) ?_ _
                clear CF3 CH3 k4 k5 k6 k7 hHeld
                go_wp2
                go_roundg (drop.length - (i + 1))
                case measure => omega
                case rel => exact ⟨i + 1, x3, by go_num, by omega, Nat.le_refl _, SZ, OK3, CN3⟩
              | false =>
                clear DH
                generalize hasB x3.free q = hv at *
                have hbb : (hv != hv) = false := by cases hv <;> rfl
                go_wp2_with fail
                first | go_region_held3 (fun w' => w'.cell? ⟨r, o + i, none⟩ = some (.int .i64 q)) (first | assumption | exact k4) ((first | (go_at_call 17; have hgd := SD; clear hgd; refine Calls.mono C11.out ?_; rintro e w4 ⟨rfl, b4⟩; have s4 := Sep.below SD.out b4; have hS := (HC.out _ s4.bel).1; have SX : Hid (Sep w.heap.size w w4 (Tx t f x3 :: File f b d :: [])) := s4; clear s4 b4 SD) | (go_at_call 15; have hgd := SX; clear hgd; refine Calls.mono (CF3.out _ SX.out) ?_; rintro e w4 ⟨ao4, n4, c4, rfl, r4, b4⟩; have s4 := Sep.below SX.out b4; have hS := (HC.out _ s4.bel).1; have R1 : Aside (Row encP 2 w4 (.slice ao4 n4 c4) x3.free) := r4.row; have SY : Hid (Sep w.heap.size w w4 (Tx t f x3 :: File f b d :: [])) := s4; clear s4 b4 r4 SX) | (go_at_call 12; have hgd := SY; clear hgd; refine Calls.mono (CH3.out _ _ _ _ R1.out) ?_; rintro e w4 ⟨rfl, b4⟩; have s4 := Sep.below SY.out b4; have hS := (HC.out _ s4.bel).1; have SZ : Hid (Sep w.heap.size w w4 (Tx t f x3 :: File f b d :: [])) := s4; clear s4 b4 SY R1) | (go_at_call 15; have hgd := SZ; clear hgd; refine Calls.mono (CF3.out _ SZ.out) ?_; rintro e w4 ⟨ao4, n4, c4, rfl, r4, b4⟩; have s4 := Sep.below SZ.out b4; have hS := (HC.out _ s4.bel).1; have R2 : Aside (Row encP 2 w4 (.slice ao4 n4 c4) x3.free) := r4.row; have SU : Hid (Sep w.heap.size w w4 (Tx t f x3 :: File f b d :: [])) := s4; clear s4 b4 r4 SZ) | (go_at_call 12; have hgd := SU; clear hgd; refine Calls.mono (CH3.out _ _ _ _ R2.out) ?_; rintro e w4 ⟨rfl, b4⟩; have s4 := Sep.below SU.out b4; have hS := (HC.out _ s4.bel).1; have SV : Hid (Sep w.heap.size w w4 (Tx t f x3 :: File f b d :: [])) := s4; clear s4 b4 SU R2))) | fail
                all_goals
                  clear CF3 CH3 C11 k4
                  go_wp2
                  go_roundg (drop.length - (i + 1))
                  case measure => omega
                  case rel => exact ⟨i + 1, x3, by go_num, by omega, Nat.le_refl _, SV, OK3, CN3⟩
            · obtain ⟨rfl, rfl⟩ : id = 0 ∧ er = 2 := by simpa using hae
              clear hae
              go_wp2_with fail
              refine Calls.mono C5.out ?_
              rintro e w8 ⟨rfl, s8⟩
              have S8 : Hid (Sep w.heap.size w w8 (Tx t f x2 :: File f b d :: [])) := s8
              clear C5 s8
              have C8 : Hid _ := tfresh S8.out QW.out
              obtain ⟨k0, k1⟩ := HC.out _ S8.out.bel
              go_wp2_with fail
              refine Calls.mono C8.out ?_
              rintro e w10 ⟨rfl, b10⟩
              have s10 : Sep w.heap.size w w10 (Tx t f x2 :: File f b d :: []) := S8.out.below b10
              have C9 : Hid _ := tdrop s10 QW.out (by have := OK2.out.len; have := OK2.out.pr; omega)
              obtain ⟨k2, k3⟩ := HC.out _ s10.bel
              have OK3 : Hid ((x2.drop q).Ok d.room) := TX.drop_ok OK2.out q
              have CN3 : Hid ((x2.drop q).cnt ≤ i + 1) := by show _ ≤ _; rw [drop_cnt]; exact CN2.out
              have DF := drop_fresh x2 q
              have DH := drop_has OK2.out hrm q
              generalize (x2.fresh q).isSome = is at *
              generalize x2.drop q = x3 at *
              clear C8 b10 s10 S8 OK2 CN2 k0 k1
              go_wp2_with fail
              refine Calls.mono C9.out ?_
              rintro e w11 ⟨rfl, s11⟩
              have hl3 := OK3.out.len
              have hp3 := OK3.out.pr
              have SD : Hid (Sep w.heap.size w w11.drew (Tx t f x3 :: File f b d :: [])) := s11.drew
              have C10 := tfresh SD.out QW.out
              rw [DF] at C10
              have C11 : Hid _ := C10
              have CF3 : Hid (∀ u, Sep w.heap.size w u (Tx t f x3 :: File f b d :: []) → Calls Try.prog 15 #[ptr t] u (GivesO u x3.free)) := fun u hu => tfree hu OK3.out.cn (by omega)
              have CH3 : Hid (∀ u ao n c, Row encP 2 u (.slice ao n c) x3.free → Calls Try.prog 12 #[.slice ao n c, .int .i64 q] u fun e w' => e = .returned (.bool (hasB x3.free q)) ∧ Below u.heap.size u w') := fun u ao n c hu => has_any _ _ q u hu (by omega)
              have k4 := (HC.out _ SD.out.bel).1
              clear C9 s11 C10 k2 k3 DF
              cases is with
              | true =>
                rw [DH rfl] at CH3
                clear DH
                go_wp2_with fail
                refine wp_region_held_drew (S := fun w' => w'.cell? ⟨r, o + i, none⟩ = some (.int .i64 q)) (by kernel_rfl) k4 (fun hHeld => ?_)
                refine wpAnyH_take (i := 0) (v := ptr t) rfl (by kernel_rfl) (by kernel_rfl) (by kernel_rfl) (fun _ _ _ h => h) (Or.inl ⟨by rfl, fun w4 hSw => by (try dsimp only at hSw); go_simp⟩) hHeld ?_
                show wpAnyH _ _ _ _ _ _ _ (Act.put _ (some 105) (ptr t)) _
                simp only [Act.put, List.setIfInBounds_toArray, List.set_cons_zero, List.set_cons_succ]
                refine wpAnyH_take (i := 1) (v := .slice (some ⟨r, o, none⟩) drop.length ca) rfl (by kernel_rfl) (by kernel_rfl) (by kernel_rfl) (fun _ _ _ h => h) (Or.inl ⟨by rfl, fun w4 hSw => by (try dsimp only at hSw); go_simp⟩) hHeld ?_
                show wpAnyH _ _ _ _ _ _ _ (Act.put _ (some 106) (.slice (some ⟨r, o, none⟩) drop.length ca)) _
                simp only [Act.put, List.setIfInBounds_toArray, List.set_cons_zero, List.set_cons_succ]
                refine wpAnyH_take (i := 2) (v := .int .i64 (i : Int)) rfl (by kernel_rfl) (by kernel_rfl) (by kernel_rfl) (fun _ _ _ h => h) (Or.inl ⟨by rfl, fun w4 hSw => by (try dsimp only at hSw); go_simp⟩) hHeld ?_
                show wpAnyH _ _ _ _ _ _ _ (Act.put _ (some 107) (.int .i64 (i : Int))) _
                simp only [Act.put, List.setIfInBounds_toArray, List.set_cons_zero, List.set_cons_succ]
                refine wpAnyH_take (i := 3) (v := .pointer (some ⟨r, o + i, none⟩)) rfl (by kernel_rfl) (by kernel_rfl) (by kernel_rfl) (fun _ _ _ h => h) (Or.inl ⟨by rfl, fun w4 hSw => by (try dsimp only at hSw); go_simp⟩) hHeld ?_
                show wpAnyH _ _ _ _ _ _ _ (Act.put _ (some 108) (.pointer (some ⟨r, o + i, none⟩))) _
                simp only [Act.put, List.setIfInBounds_toArray, List.set_cons_zero, List.set_cons_succ]
                refine wpAnyH_take (i := 4) (v := .int .i64 q) rfl (by kernel_rfl) (by kernel_rfl) (by kernel_rfl) (fun _ _ _ h => h) (Or.inl ⟨by rfl, fun w4 hSw => by (try dsimp only at hSw); go_simp⟩) hHeld ?_
                show wpAnyH _ _ _ _ _ _ _ (Act.put _ (some 109) (.int .i64 q)) _
                simp only [Act.put, List.setIfInBounds_toArray, List.set_cons_zero, List.set_cons_succ]
                refine wpAnyH_ready (rs := [5]) (by kernel_rfl) (by simp) ?_
                refine AllReadyH.cons rfl (fun K hK => ?_) AllReadyH.nil
                go_simp
                refine Calls.mono C11.out ?_
                rintro e w12 ⟨rfl, b12⟩
                have s12 := Sep.below SD.out b12
                have SX : Hid (Sep w.heap.size w w12 (Tx t f x3 :: File f b d :: [])) := s12
                have k5 := (HC.out _ s12.bel).1
                clear s12 b12 SD C11
                refine hK.out _ _ k5 (fun hHeld2 => ?_)
                clear hHeld hK K
                have hHeld := hHeld2
                clear hHeld2
                refine wpAnyH_take (i := 6) (v := .bool false) rfl (by kernel_rfl) (by kernel_rfl) (by kernel_rfl) (fun _ _ _ h => h) (Or.inl ⟨by rfl, fun w4 hSw => by (try dsimp only at hSw); go_simp⟩) hHeld ?_
                show wpAnyH _ _ _ _ _ _ _ (Act.put _ (some 111) (.bool false)) _
                simp only [Act.put, List.setIfInBounds_toArray, List.set_cons_zero, List.set_cons_succ]
                refine wpAnyH_take (i := 7) (v := ptr t) rfl (by kernel_rfl) (by kernel_rfl) (by kernel_rfl) (fun _ _ _ h => h) (Or.inl ⟨by rfl, fun w4 hSw => by (try dsimp only at hSw); go_simp⟩) hHeld ?_
                show wpAnyH _ _ _ _ _ _ _ (Act.put _ (some 112) (ptr t)) _
                simp only [Act.put, List.setIfInBounds_toArray, List.set_cons_zero, List.set_cons_succ]
                refine wpAnyH_take (i := 9) (v := .slice (some ⟨r, o, none⟩) drop.length ca) rfl (by kernel_rfl) (by kernel_rfl) (by kernel_rfl) (fun _ _ _ h => h) (Or.inl ⟨by rfl, fun w4 hSw => by (try dsimp only at hSw); go_simp⟩) hHeld ?_
                show wpAnyH _ _ _ _ _ _ _ (Act.put _ (some 114) (.slice (some ⟨r, o, none⟩) drop.length ca)) _
                simp only [Act.put, List.setIfInBounds_toArray, List.set_cons_zero, List.set_cons_succ]
                refine wpAnyH_take (i := 10) (v := .int .i64 (i : Int)) rfl (by kernel_rfl) (by kernel_rfl) (by kernel_rfl) (fun _ _ _ h => h) (Or.inl ⟨by rfl, fun w4 hSw => by (try dsimp only at hSw); go_simp⟩) hHeld ?_
                show wpAnyH _ _ _ _ _ _ _ (Act.put _ (some 115) (.int .i64 (i : Int))) _
                simp only [Act.put, List.setIfInBounds_toArray, List.set_cons_zero, List.set_cons_succ]
                refine wpAnyH_take (i := 11) (v := .pointer (some ⟨r, o + i, none⟩)) rfl (by kernel_rfl) (by kernel_rfl) (by kernel_rfl) (fun _ _ _ h => h) (Or.inl ⟨by rfl, fun w4 hSw => by (try dsimp only at hSw); go_simp⟩) hHeld ?_
                show wpAnyH _ _ _ _ _ _ _ (Act.put _ (some 116) (.pointer (some ⟨r, o + i, none⟩))) _
                simp only [Act.put, List.setIfInBounds_toArray, List.set_cons_zero, List.set_cons_succ]
                refine wpAnyH_take (i := 12) (v := .int .i64 q) rfl (by kernel_rfl) (by kernel_rfl) (by kernel_rfl) (fun _ _ _ h => h) (Or.inl ⟨by rfl, fun w4 hSw => by (try dsimp only at hSw); go_simp⟩) hHeld ?_
                show wpAnyH _ _ _ _ _ _ _ (Act.put _ (some 117) (.int .i64 q)) _
                simp only [Act.put, List.setIfInBounds_toArray, List.set_cons_zero, List.set_cons_succ]
                refine wpAnyH_take (i := 14) (v := .bool true) rfl (by kernel_rfl) (by kernel_rfl) (by kernel_rfl) (fun _ _ _ h => h) (Or.inl ⟨by rfl, fun w4 hSw => by (try dsimp only at hSw); go_simp⟩) hHeld ?_
                show wpAnyH _ _ _ _ _ _ _ (Act.put _ (some 119) (.bool true)) _
                simp only [Act.put, List.setIfInBounds_toArray, List.set_cons_zero, List.set_cons_succ]
                refine wpAnyH_ready (rs := [8]) (by kernel_rfl) (by simp) ?_
                refine AllReadyH.cons rfl (fun K hK => ?_) AllReadyH.nil
                go_simp
                refine Calls.mono (CF3.out _ SX.out) ?_
                rintro e w13 ⟨ao4, n4, c4, rfl, r4, b4⟩
                have s13 := Sep.below SX.out b4
                have SY : Hid (Sep w.heap.size w w13 (Tx t f x3 :: File f b d :: [])) := s13
                have k6 := (HC.out _ s13.bel).1
                have C13 : Hid _ := CH3.out _ _ _ _ r4.row
                clear s13 r4 b4 SX
                refine hK.out _ _ k6 (fun hHeld2 => ?_)
                clear hHeld hK K
                have hHeld := hHeld2
                clear hHeld2
                refine wpAnyH_ready (rs := [13]) (by kernel_rfl) (by simp) ?_
                refine AllReadyH.cons rfl (fun K hK => ?_) AllReadyH.nil
                go_simp
                refine Calls.mono C13.out ?_
                rintro e w14 ⟨rfl, b14⟩
                have s14 := Sep.below SY.out b14
                have SZ : Hid (Sep w.heap.size w w14 (Tx t f x3 :: File f b d :: [])) := s14
                have k7 := (HC.out _ s14.bel).1
                clear s14 b14 SY C13
                refine hK.out _ _ k7 (fun hHeld2 => ?_)
                clear hHeld hK K
                have hHeld := hHeld2
                clear hHeld2
                refine wpAnyH_take (i := 15) (v := .bool true) rfl (by kernel_rfl) (by kernel_rfl) (by kernel_rfl) (fun _ _ _ h => h) (Or.inl ⟨by rfl, fun w4 hSw => by (try dsimp only at hSw); go_simp⟩) hHeld ?_
                show wpAnyH _ _ _ _ _ _ _ (Act.put _ (some 120) (.bool true)) _
                simp only [Act.put, List.setIfInBounds_toArray, List.set_cons_zero, List.set_cons_succ]
                refine wpAnyH_take (i := 16) (v := undef) rfl (by kernel_rfl) (by kernel_rfl) (by kernel_rfl) (fun _ _ _ h => h) (Or.inr ⟨by rfl, rfl⟩) hHeld ?_
                show wpAnyH _ _ _ _ _ _ _ (Act.put _ (some 121) (undef)) _
                simp only [Act.put, List.setIfInBounds_toArray, List.set_cons_zero, List.set_cons_succ]
                refine wpAnyH_take (i := 18) (v := undef) rfl (by kernel_rfl) (by kernel_rfl) (by kernel_rfl) (fun _ _ _ h => h) (Or.inr ⟨by rfl, rfl⟩) hHeld ?_
                show wpAnyH _ _ _ _ _ _ _ (Act.put _ (some 123) (undef)) _
                simp only [Act.put, List.setIfInBounds_toArray, List.set_cons_zero, List.set_cons_succ]
                refine wpAnyH_take (i := 19) (v := undef) rfl (by kernel_rfl) (by kernel_rfl) (by kernel_rfl) (fun _ _ _ h => h) (Or.inr ⟨by rfl, rfl⟩) hHeld ?_
                show wpAnyH _ _ _ _ _ _ _ (Act.put _ (some 124) (undef)) _
                simp only [Act.put, List.setIfInBounds_toArray, List.set_cons_zero, List.set_cons_succ]
                refine wpAnyH_take (i := 20) (v := undef) rfl (by kernel_rfl) (by kernel_rfl) (by kernel_rfl) (fun _ _ _ h => h) (Or.inr ⟨by rfl, rfl⟩) hHeld ?_
                show wpAnyH _ _ _ _ _ _ _ (Act.put _ (some 125) (undef)) _
                simp only [Act.put, List.setIfInBounds_toArray, List.set_cons_zero, List.set_cons_succ]
                refine wpAnyH_take (i := 21) (v := undef) rfl (by kernel_rfl) (by kernel_rfl) (by kernel_rfl) (fun _ _ _ h => h) (Or.inr ⟨by rfl, rfl⟩) hHeld ?_
                show wpAnyH _ _ _ _ _ _ _ (Act.put _ (some 126) (undef)) _
                simp only [Act.put, List.setIfInBounds_toArray, List.set_cons_zero, List.set_cons_succ]
                refine wpAnyH_take (i := 17) (v := undef) rfl (by kernel_rfl) (by kernel_rfl) (by kernel_rfl) (fun _ _ _ h => h) (Or.inr ⟨by rfl, rfl⟩) hHeld ?_
                show wpAnyH _ _ _ _ _ _ _ (Act.put _ (some 122) (undef)) _
                simp only [Act.put, List.setIfInBounds_toArray, List.set_cons_zero, List.set_cons_succ]
                refine wpAnyH_take (i := 22) (v := undef) rfl (by kernel_rfl) (by kernel_rfl) (by kernel_rfl) (fun _ _ _ h => h) (Or.inr ⟨by rfl, rfl⟩) hHeld ?_
                show wpAnyH _ _ _ _ _ _ _ (Act.put _ (some 127) (undef)) _
                simp only [Act.put, List.setIfInBounds_toArray, List.set_cons_zero, List.set_cons_succ]
                refine wpAnyH_take (i := 23) (v := .bool true) rfl (by kernel_rfl) (by kernel_rfl) (by kernel_rfl) (fun _ _ _ h => h) (Or.inl ⟨by rfl, fun w4 hSw => by (try dsimp only at hSw); go_simp⟩) hHeld ?_
                show wpAnyH _ _ _ _ _ _ _ (Act.put _ (some 128) (.bool true)) _
                simp only [Act.put, List.setIfInBounds_toArray, List.set_cons_zero, List.set_cons_succ]
                refine wpAnyH_take (i := 24) (v := .bool false) rfl (by kernel_rfl) (by kernel_rfl) (by kernel_rfl) (fun _ _ _ h => h) (Or.inl ⟨by rfl, fun w4 hSw => by (try dsimp only at hSw); go_simp⟩) hHeld ?_
                show wpAnyH _ _ _ _ _ _ _ (Act.put _ (some 129) (.bool false)) _
                simp only [Act.put, List.setIfInBounds_toArray, List.set_cons_zero, List.set_cons_succ]
                refine wpAnyH_take (i := 25) (v := .bool false) rfl (by kernel_rfl) (by kernel_rfl) (by kernel_rfl) (fun _ _ _ h => h) (Or.inl ⟨by rfl, fun w4 hSw => by (try dsimp only at hSw); go_simp⟩) hHeld ?_
                show wpAnyH _ _ _ _ _ _ _ (Act.put _ (some 130) (.bool false)) _
                simp only [Act.put, List.setIfInBounds_toArray, List.set_cons_zero, List.set_cons_succ]
                refine wpAnyH_done (by kernel_rfl) ?_ _
                clear CF3 CH3 k4 k5 k6 k7 hHeld
                go_wp2
                go_roundg (drop.length - (i + 1))
                case measure => omega
                case rel => exact ⟨i + 1, x3, by go_num, by omega, Nat.le_refl _, SZ, OK3, CN3⟩
              | false =>
                clear DH
                generalize hasB x3.free q = hv at *
                have hbb : (hv != hv) = false := by cases hv <;> rfl
                go_wp2_with fail
                first | go_region_held3 (fun w' => w'.cell? ⟨r, o + i, none⟩ = some (.int .i64 q)) (first | assumption | exact k4) ((first | (go_at_call 17; have hgd := SD; clear hgd; refine Calls.mono C11.out ?_; rintro e w4 ⟨rfl, b4⟩; have s4 := Sep.below SD.out b4; have hS := (HC.out _ s4.bel).1; have SX : Hid (Sep w.heap.size w w4 (Tx t f x3 :: File f b d :: [])) := s4; clear s4 b4 SD) | (go_at_call 15; have hgd := SX; clear hgd; refine Calls.mono (CF3.out _ SX.out) ?_; rintro e w4 ⟨ao4, n4, c4, rfl, r4, b4⟩; have s4 := Sep.below SX.out b4; have hS := (HC.out _ s4.bel).1; have R1 : Aside (Row encP 2 w4 (.slice ao4 n4 c4) x3.free) := r4.row; have SY : Hid (Sep w.heap.size w w4 (Tx t f x3 :: File f b d :: [])) := s4; clear s4 b4 r4 SX) | (go_at_call 12; have hgd := SY; clear hgd; refine Calls.mono (CH3.out _ _ _ _ R1.out) ?_; rintro e w4 ⟨rfl, b4⟩; have s4 := Sep.below SY.out b4; have hS := (HC.out _ s4.bel).1; have SZ : Hid (Sep w.heap.size w w4 (Tx t f x3 :: File f b d :: [])) := s4; clear s4 b4 SY R1) | (go_at_call 15; have hgd := SZ; clear hgd; refine Calls.mono (CF3.out _ SZ.out) ?_; rintro e w4 ⟨ao4, n4, c4, rfl, r4, b4⟩; have s4 := Sep.below SZ.out b4; have hS := (HC.out _ s4.bel).1; have R2 : Aside (Row encP 2 w4 (.slice ao4 n4 c4) x3.free) := r4.row; have SU : Hid (Sep w.heap.size w w4 (Tx t f x3 :: File f b d :: [])) := s4; clear s4 b4 r4 SZ) | (go_at_call 12; have hgd := SU; clear hgd; refine Calls.mono (CH3.out _ _ _ _ R2.out) ?_; rintro e w4 ⟨rfl, b4⟩; have s4 := Sep.below SU.out b4; have hS := (HC.out _ s4.bel).1; have SV : Hid (Sep w.heap.size w w4 (Tx t f x3 :: File f b d :: [])) := s4; clear s4 b4 SU R2))) | fail
                all_goals
                  clear CF3 CH3 C11 k4
                  go_wp2
                  go_roundg (drop.length - (i + 1))
                  case measure => omega
                  case rel => exact ⟨i + 1, x3, by go_num, by omega, Nat.le_refl _, SV, OK3, CN3⟩
            · obtain ⟨rfl, rfl⟩ : id = (xp : Int) ∧ er = 0 := by simpa using hae
              clear hae
              go_wp2_with fail
              refine Calls.mono C5.out ?_
              rintro e w8 ⟨rfl, s8⟩
              have S8 : Hid (Sep w.heap.size w w8 (Tx t f x2 :: File f b d :: [])) := s8
              have C6 := tpages s8 OK2.out.p2
              rw [hap] at C6
              have C7 : Hid _ := C6
              clear C5 s8 C6
              have hwz : wrap64 ((xp : Int) + 1) = (xp : Int) + 1 := w64 (by omega) (by omega)
              have hnc : ((xp + 1 : Nat) : Int) = (xp : Int) + 1 := by omega
              rw [hnc] at C7
              generalize (xp : Int) = zp at *
              go_wp2_with fail
              refine Calls.mono C7.out ?_
              rintro e w9 ⟨rfl, rfl⟩
              clear C7
              have C8 : Hid _ := tfresh S8.out QW.out
              obtain ⟨k0, k1⟩ := HC.out _ S8.out.bel
              go_wp2_with fail
              refine Calls.mono C8.out ?_
              rintro e w10 ⟨rfl, b10⟩
              have s10 : Sep w.heap.size w w10 (Tx t f x2 :: File f b d :: []) := S8.out.below b10
              have C9 : Hid _ := tdrop s10 QW.out (by have := OK2.out.len; have := OK2.out.pr; omega)
              obtain ⟨k2, k3⟩ := HC.out _ s10.bel
              have OK3 : Hid ((x2.drop q).Ok d.room) := TX.drop_ok OK2.out q
              have CN3 : Hid ((x2.drop q).cnt ≤ i + 1) := by show _ ≤ _; rw [drop_cnt]; exact CN2.out
              have DF := drop_fresh x2 q
              have DH := drop_has OK2.out hrm q
              generalize (x2.fresh q).isSome = is at *
              generalize x2.drop q = x3 at *
              clear C8 b10 s10 S8 OK2 CN2 k0 k1
              go_wp2_with fail
              refine Calls.mono C9.out ?_
              rintro e w11 ⟨rfl, s11⟩
              have hl3 := OK3.out.len
              have hp3 := OK3.out.pr
              have SD : Hid (Sep w.heap.size w w11.drew (Tx t f x3 :: File f b d :: [])) := s11.drew
              have C10 := tfresh SD.out QW.out
              rw [DF] at C10
              have C11 : Hid _ := C10
              have CF3 : Hid (∀ u, Sep w.heap.size w u (Tx t f x3 :: File f b d :: []) → Calls Try.prog 15 #[ptr t] u (GivesO u x3.free)) := fun u hu => tfree hu OK3.out.cn (by omega)
              have CH3 : Hid (∀ u ao n c, Row encP 2 u (.slice ao n c) x3.free → Calls Try.prog 12 #[.slice ao n c, .int .i64 q] u fun e w' => e = .returned (.bool (hasB x3.free q)) ∧ Below u.heap.size u w') := fun u ao n c hu => has_any _ _ q u hu (by omega)
              have k4 := (HC.out _ SD.out.bel).1
              clear C9 s11 C10 k2 k3 DF
              cases is with
              | true =>
                rw [DH rfl] at CH3
                clear DH
                go_wp2_with fail
                refine wp_region_held_drew (S := fun w' => w'.cell? ⟨r, o + i, none⟩ = some (.int .i64 q)) (by kernel_rfl) k4 (fun hHeld => ?_)
                refine wpAnyH_take (i := 0) (v := ptr t) rfl (by kernel_rfl) (by kernel_rfl) (by kernel_rfl) (fun _ _ _ h => h) (Or.inl ⟨by rfl, fun w4 hSw => by (try dsimp only at hSw); go_simp⟩) hHeld ?_
                show wpAnyH _ _ _ _ _ _ _ (Act.put _ (some 105) (ptr t)) _
                simp only [Act.put, List.setIfInBounds_toArray, List.set_cons_zero, List.set_cons_succ]
                refine wpAnyH_take (i := 1) (v := .slice (some ⟨r, o, none⟩) drop.length ca) rfl (by kernel_rfl) (by kernel_rfl) (by kernel_rfl) (fun _ _ _ h => h) (Or.inl ⟨by rfl, fun w4 hSw => by (try dsimp only at hSw); go_simp⟩) hHeld ?_
                show wpAnyH _ _ _ _ _ _ _ (Act.put _ (some 106) (.slice (some ⟨r, o, none⟩) drop.length ca)) _
                simp only [Act.put, List.setIfInBounds_toArray, List.set_cons_zero, List.set_cons_succ]
                refine wpAnyH_take (i := 2) (v := .int .i64 (i : Int)) rfl (by kernel_rfl) (by kernel_rfl) (by kernel_rfl) (fun _ _ _ h => h) (Or.inl ⟨by rfl, fun w4 hSw => by (try dsimp only at hSw); go_simp⟩) hHeld ?_
                show wpAnyH _ _ _ _ _ _ _ (Act.put _ (some 107) (.int .i64 (i : Int))) _
                simp only [Act.put, List.setIfInBounds_toArray, List.set_cons_zero, List.set_cons_succ]
                refine wpAnyH_take (i := 3) (v := .pointer (some ⟨r, o + i, none⟩)) rfl (by kernel_rfl) (by kernel_rfl) (by kernel_rfl) (fun _ _ _ h => h) (Or.inl ⟨by rfl, fun w4 hSw => by (try dsimp only at hSw); go_simp⟩) hHeld ?_
                show wpAnyH _ _ _ _ _ _ _ (Act.put _ (some 108) (.pointer (some ⟨r, o + i, none⟩))) _
                simp only [Act.put, List.setIfInBounds_toArray, List.set_cons_zero, List.set_cons_succ]
                refine wpAnyH_take (i := 4) (v := .int .i64 q) rfl (by kernel_rfl) (by kernel_rfl) (by kernel_rfl) (fun _ _ _ h => h) (Or.inl ⟨by rfl, fun w4 hSw => by (try dsimp only at hSw); go_simp⟩) hHeld ?_
                show wpAnyH _ _ _ _ _ _ _ (Act.put _ (some 109) (.int .i64 q)) _
                simp only [Act.put, List.setIfInBounds_toArray, List.set_cons_zero, List.set_cons_succ]
                refine wpAnyH_ready (rs := [5]) (by kernel_rfl) (by simp) ?_
                refine AllReadyH.cons rfl (fun K hK => ?_) AllReadyH.nil
                go_simp
                refine Calls.mono C11.out ?_
                rintro e w12 ⟨rfl, b12⟩
                have s12 := Sep.below SD.out b12
                have SX : Hid (Sep w.heap.size w w12 (Tx t f x3 :: File f b d :: [])) := s12
                have k5 := (HC.out _ s12.bel).1
                clear s12 b12 SD C11
                refine hK.out _ _ k5 (fun hHeld2 => ?_)
                clear hHeld hK K
                have hHeld := hHeld2
                clear hHeld2
                refine wpAnyH_take (i := 6) (v := .bool false) rfl (by kernel_rfl) (by kernel_rfl) (by kernel_rfl) (fun _ _ _ h => h) (Or.inl ⟨by rfl, fun w4 hSw => by (try dsimp only at hSw); go_simp⟩) hHeld ?_
                show wpAnyH _ _ _ _ _ _ _ (Act.put _ (some 111) (.bool false)) _
                simp only [Act.put, List.setIfInBounds_toArray, List.set_cons_zero, List.set_cons_succ]
                refine wpAnyH_take (i := 7) (v := ptr t) rfl (by kernel_rfl) (by kernel_rfl) (by kernel_rfl) (fun _ _ _ h => h) (Or.inl ⟨by rfl, fun w4 hSw => by (try dsimp only at hSw); go_simp⟩) hHeld ?_
                show wpAnyH _ _ _ _ _ _ _ (Act.put _ (some 112) (ptr t)) _
                simp only [Act.put, List.setIfInBounds_toArray, List.set_cons_zero, List.set_cons_succ]
                refine wpAnyH_take (i := 9) (v := .slice (some ⟨r, o, none⟩) drop.length ca) rfl (by kernel_rfl) (by kernel_rfl) (by kernel_rfl) (fun _ _ _ h => h) (Or.inl ⟨by rfl, fun w4 hSw => by (try dsimp only at hSw); go_simp⟩) hHeld ?_
                show wpAnyH _ _ _ _ _ _ _ (Act.put _ (some 114) (.slice (some ⟨r, o, none⟩) drop.length ca)) _
                simp only [Act.put, List.setIfInBounds_toArray, List.set_cons_zero, List.set_cons_succ]
                refine wpAnyH_take (i := 10) (v := .int .i64 (i : Int)) rfl (by kernel_rfl) (by kernel_rfl) (by kernel_rfl) (fun _ _ _ h => h) (Or.inl ⟨by rfl, fun w4 hSw => by (try dsimp only at hSw); go_simp⟩) hHeld ?_
                show wpAnyH _ _ _ _ _ _ _ (Act.put _ (some 115) (.int .i64 (i : Int))) _
                simp only [Act.put, List.setIfInBounds_toArray, List.set_cons_zero, List.set_cons_succ]
                refine wpAnyH_take (i := 11) (v := .pointer (some ⟨r, o + i, none⟩)) rfl (by kernel_rfl) (by kernel_rfl) (by kernel_rfl) (fun _ _ _ h => h) (Or.inl ⟨by rfl, fun w4 hSw => by (try dsimp only at hSw); go_simp⟩) hHeld ?_
                show wpAnyH _ _ _ _ _ _ _ (Act.put _ (some 116) (.pointer (some ⟨r, o + i, none⟩))) _
                simp only [Act.put, List.setIfInBounds_toArray, List.set_cons_zero, List.set_cons_succ]
                refine wpAnyH_take (i := 12) (v := .int .i64 q) rfl (by kernel_rfl) (by kernel_rfl) (by kernel_rfl) (fun _ _ _ h => h) (Or.inl ⟨by rfl, fun w4 hSw => by (try dsimp only at hSw); go_simp⟩) hHeld ?_
                show wpAnyH _ _ _ _ _ _ _ (Act.put _ (some 117) (.int .i64 q)) _
                simp only [Act.put, List.setIfInBounds_toArray, List.set_cons_zero, List.set_cons_succ]
                refine wpAnyH_take (i := 14) (v := .bool true) rfl (by kernel_rfl) (by kernel_rfl) (by kernel_rfl) (fun _ _ _ h => h) (Or.inl ⟨by rfl, fun w4 hSw => by (try dsimp only at hSw); go_simp⟩) hHeld ?_
                show wpAnyH _ _ _ _ _ _ _ (Act.put _ (some 119) (.bool true)) _
                simp only [Act.put, List.setIfInBounds_toArray, List.set_cons_zero, List.set_cons_succ]
                refine wpAnyH_ready (rs := [8]) (by kernel_rfl) (by simp) ?_
                refine AllReadyH.cons rfl (fun K hK => ?_) AllReadyH.nil
                go_simp
                refine Calls.mono (CF3.out _ SX.out) ?_
                rintro e w13 ⟨ao4, n4, c4, rfl, r4, b4⟩
                have s13 := Sep.below SX.out b4
                have SY : Hid (Sep w.heap.size w w13 (Tx t f x3 :: File f b d :: [])) := s13
                have k6 := (HC.out _ s13.bel).1
                have C13 : Hid _ := CH3.out _ _ _ _ r4.row
                clear s13 r4 b4 SX
                refine hK.out _ _ k6 (fun hHeld2 => ?_)
                clear hHeld hK K
                have hHeld := hHeld2
                clear hHeld2
                refine wpAnyH_ready (rs := [13]) (by kernel_rfl) (by simp) ?_
                refine AllReadyH.cons rfl (fun K hK => ?_) AllReadyH.nil
                go_simp
                refine Calls.mono C13.out ?_
                rintro e w14 ⟨rfl, b14⟩
                have s14 := Sep.below SY.out b14
                have SZ : Hid (Sep w.heap.size w w14 (Tx t f x3 :: File f b d :: [])) := s14
                have k7 := (HC.out _ s14.bel).1
                clear s14 b14 SY C13
                refine hK.out _ _ k7 (fun hHeld2 => ?_)
                clear hHeld hK K
                have hHeld := hHeld2
                clear hHeld2
                refine wpAnyH_take (i := 15) (v := .bool true) rfl (by kernel_rfl) (by kernel_rfl) (by kernel_rfl) (fun _ _ _ h => h) (Or.inl ⟨by rfl, fun w4 hSw => by (try dsimp only at hSw); go_simp⟩) hHeld ?_
                show wpAnyH _ _ _ _ _ _ _ (Act.put _ (some 120) (.bool true)) _
                simp only [Act.put, List.setIfInBounds_toArray, List.set_cons_zero, List.set_cons_succ]
                refine wpAnyH_take (i := 16) (v := undef) rfl (by kernel_rfl) (by kernel_rfl) (by kernel_rfl) (fun _ _ _ h => h) (Or.inr ⟨by rfl, rfl⟩) hHeld ?_
                show wpAnyH _ _ _ _ _ _ _ (Act.put _ (some 121) (undef)) _
                simp only [Act.put, List.setIfInBounds_toArray, List.set_cons_zero, List.set_cons_succ]
                refine wpAnyH_take (i := 18) (v := undef) rfl (by kernel_rfl) (by kernel_rfl) (by kernel_rfl) (fun _ _ _ h => h) (Or.inr ⟨by rfl, rfl⟩) hHeld ?_
                show wpAnyH _ _ _ _ _ _ _ (Act.put _ (some 123) (undef)) _
                simp only [Act.put, List.setIfInBounds_toArray, List.set_cons_zero, List.set_cons_succ]
                refine wpAnyH_take (i := 19) (v := undef) rfl (by kernel_rfl) (by kernel_rfl) (by kernel_rfl) (fun _ _ _ h => h) (Or.inr ⟨by rfl, rfl⟩) hHeld ?_
                show wpAnyH _ _ _ _ _ _ _ (Act.put _ (some 124) (undef)) _
                simp only [Act.put, List.setIfInBounds_toArray, List.set_cons_zero, List.set_cons_succ]
                refine wpAnyH_take (i := 20) (v := undef) rfl (by kernel_rfl) (by kernel_rfl) (by kernel_rfl) (fun _ _ _ h => h) (Or.inr ⟨by rfl, rfl⟩) hHeld ?_
                show wpAnyH _ _ _ _ _ _ _ (Act.put _ (some 125) (undef)) _
                simp only [Act.put, List.setIfInBounds_toArray, List.set_cons_zero, List.set_cons_succ]
                refine wpAnyH_take (i := 21) (v := undef) rfl (by kernel_rfl) (by kernel_rfl) (by kernel_rfl) (fun _ _ _ h => h) (Or.inr ⟨by rfl, rfl⟩) hHeld ?_
                show wpAnyH _ _ _ _ _ _ _ (Act.put _ (some 126) (undef)) _
                simp only [Act.put, List.setIfInBounds_toArray, List.set_cons_zero, List.set_cons_succ]
                refine wpAnyH_take (i := 17) (v := undef) rfl (by kernel_rfl) (by kernel_rfl) (by kernel_rfl) (fun _ _ _ h => h) (Or.inr ⟨by rfl, rfl⟩) hHeld ?_
                show wpAnyH _ _ _ _ _ _ _ (Act.put _ (some 122) (undef)) _
                simp only [Act.put, List.setIfInBounds_toArray, List.set_cons_zero, List.set_cons_succ]
                refine wpAnyH_take (i := 22) (v := undef) rfl (by kernel_rfl) (by kernel_rfl) (by kernel_rfl) (fun _ _ _ h => h) (Or.inr ⟨by rfl, rfl⟩) hHeld ?_
                show wpAnyH _ _ _ _ _ _ _ (Act.put _ (some 127) (undef)) _
                simp only [Act.put, List.setIfInBounds_toArray, List.set_cons_zero, List.set_cons_succ]
                refine wpAnyH_take (i := 23) (v := .bool true) rfl (by kernel_rfl) (by kernel_rfl) (by kernel_rfl) (fun _ _ _ h => h) (Or.inl ⟨by rfl, fun w4 hSw => by (try dsimp only at hSw); go_simp⟩) hHeld ?_
                show wpAnyH _ _ _ _ _ _ _ (Act.put _ (some 128) (.bool true)) _
                simp only [Act.put, List.setIfInBounds_toArray, List.set_cons_zero, List.set_cons_succ]
                refine wpAnyH_take (i := 24) (v := .bool false) rfl (by kernel_rfl) (by kernel_rfl) (by kernel_rfl) (fun _ _ _ h => h) (Or.inl ⟨by rfl, fun w4 hSw => by (try dsimp only at hSw); go_simp⟩) hHeld ?_
                show wpAnyH _ _ _ _ _ _ _ (Act.put _ (some 129) (.bool false)) _
                simp only [Act.put, List.setIfInBounds_toArray, List.set_cons_zero, List.set_cons_succ]
                refine wpAnyH_take (i := 25) (v := .bool false) rfl (by kernel_rfl) (by kernel_rfl) (by kernel_rfl) (fun _ _ _ h => h) (Or.inl ⟨by rfl, fun w4 hSw => by (try dsimp only at hSw); go_simp⟩) hHeld ?_
                show wpAnyH _ _ _ _ _ _ _ (Act.put _ (some 130) (.bool false)) _
                simp only [Act.put, List.setIfInBounds_toArray, List.set_cons_zero, List.set_cons_succ]
                refine wpAnyH_done (by kernel_rfl) ?_ _
                clear CF3 CH3 k4 k5 k6 k7 hHeld
                go_wp2
                go_roundg (drop.length - (i + 1))
                case measure => omega
                case rel => exact ⟨i + 1, x3, by go_num, by omega, Nat.le_refl _, SZ, OK3, CN3⟩
              | false =>
                clear DH
                generalize hasB x3.free q = hv at *
                have hbb : (hv != hv) = false := by cases hv <;> rfl
                go_wp2_with fail
                first | go_region_held3 (fun w' => w'.cell? ⟨r, o + i, none⟩ = some (.int .i64 q)) (first | assumption | exact k4) ((first | (go_at_call 17; have hgd := SD; clear hgd; refine Calls.mono C11.out ?_; rintro e w4 ⟨rfl, b4⟩; have s4 := Sep.below SD.out b4; have hS := (HC.out _ s4.bel).1; have SX : Hid (Sep w.heap.size w w4 (Tx t f x3 :: File f b d :: [])) := s4; clear s4 b4 SD) | (go_at_call 15; have hgd := SX; clear hgd; refine Calls.mono (CF3.out _ SX.out) ?_; rintro e w4 ⟨ao4, n4, c4, rfl, r4, b4⟩; have s4 := Sep.below SX.out b4; have hS := (HC.out _ s4.bel).1; have R1 : Aside (Row encP 2 w4 (.slice ao4 n4 c4) x3.free) := r4.row; have SY : Hid (Sep w.heap.size w w4 (Tx t f x3 :: File f b d :: [])) := s4; clear s4 b4 r4 SX) | (go_at_call 12; have hgd := SY; clear hgd; refine Calls.mono (CH3.out _ _ _ _ R1.out) ?_; rintro e w4 ⟨rfl, b4⟩; have s4 := Sep.below SY.out b4; have hS := (HC.out _ s4.bel).1; have SZ : Hid (Sep w.heap.size w w4 (Tx t f x3 :: File f b d :: [])) := s4; clear s4 b4 SY R1) | (go_at_call 15; have hgd := SZ; clear hgd; refine Calls.mono (CF3.out _ SZ.out) ?_; rintro e w4 ⟨ao4, n4, c4, rfl, r4, b4⟩; have s4 := Sep.below SZ.out b4; have hS := (HC.out _ s4.bel).1; have R2 : Aside (Row encP 2 w4 (.slice ao4 n4 c4) x3.free) := r4.row; have SU : Hid (Sep w.heap.size w w4 (Tx t f x3 :: File f b d :: [])) := s4; clear s4 b4 r4 SZ) | (go_at_call 12; have hgd := SU; clear hgd; refine Calls.mono (CH3.out _ _ _ _ R2.out) ?_; rintro e w4 ⟨rfl, b4⟩; have s4 := Sep.below SU.out b4; have hS := (HC.out _ s4.bel).1; have SV : Hid (Sep w.heap.size w w4 (Tx t f x3 :: File f b d :: [])) := s4; clear s4 b4 SU R2))) | fail
                all_goals
                  clear CF3 CH3 C11 k4
                  go_wp2
                  go_roundg (drop.length - (i + 1))
                  case measure => omega
                  case rel => exact ⟨i + 1, x3, by go_num, by omega, Nat.le_refl _, SV, OK3, CN3⟩
          · have hilz : ¬ (i : Int) < (drop.length : Int) := by omega
            obtain rfl : i = drop.length := by omega
            have BR : Hid (Below w.heap.size w wr) := SR.out.bel
            clear SR OKR CNR
            go_wp2
            go_ret
            exact ⟨rfl, BR.out⟩

end Go.Proofs.Ytnngfkjbbedkpaa
