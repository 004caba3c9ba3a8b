/-
  The walk of the law's own works: the document's examples.
-/
import Derived.Test.YtmamnlphhiaeoaaNdEnc
import Derived.Test.YtmamnlphhiaeoaaNdSwapW
import Derived.Test.YtmamnlphhiaeoaaNdSplit
import Derived.Test.YtmamnlphhiaeoaaNdSame
namespace Go.Proofs.Ytmamnlphhiaeoaa
open Go.Shelf Go.RowKit Go.Lib Go.Sort

/-- The examples' nodes. -/
def exN : Nd := ⟨false, [], [5, 9], [⟨#[109]⟩]⟩
def exM : Nd := ⟨false, [], [6, 7, 9], [⟨#[99]⟩, ⟨#[109]⟩]⟩
theorem exN_rt : rtN exN = true := by decide +kernel
theorem exM_en : enN exM = true := by decide +kernel
theorem exN_sz : szN exN = 10 := by decide +kernel
theorem exN_fi : fiN exN = true := by decide +kernel
theorem exN_en : enK exN = 2 ∧ enS exN = ⟨#[0, 0, 0, 5, 1, 109, 0, 0, 0, 9]⟩ ∧ enE2 exN = 0 := by
  obtain ⟨a, b, c⟩ := en_yes exN_rt (by rw [exN_sz]; omega)
  refine ⟨a.trans rfl, b.trans ?_, c⟩
  decide +kernel
theorem exN_c1 : chN exN.ss ⟨#[97]⟩ = 0 := by decide +kernel
theorem exN_c2 : chN exN.ss ⟨#[109]⟩ = 1 := by decide +kernel
theorem exN_sw : swN exN 0 1 [6, 7] [⟨#[99]⟩] = exM := by
  unfold swN
  rw [if_pos (by decide)]
  rfl
theorem exM_sp : sA exM = ⟨false, [], [6], []⟩ ∧ sM exM = ⟨#[99]⟩ ∧ sB exM = ⟨false, [], [7, 9], [⟨#[109]⟩]⟩ := by
  unfold sA sM sB
  rw [if_pos exM_en, if_pos exM_en, if_pos exM_en]
  exact ⟨rfl, rfl, rfl⟩
theorem exN_sm : Sm exN := ⟨by decide, by decide, by decide, by decide, by decide⟩
theorem exM_sm : Sm exM := ⟨by decide, by decide, by decide, by decide, by decide⟩

theorem flat2I (a b : Int) : #[Value.int .i64 a, Value.int .i64 b] = flatK encI 1 [a, b].toArray := by
  apply Array.ext'
  have h1 := flatK_snoc encI 1 encI_len [] a
  have h2 := flatK_snoc encI 1 encI_len [a] b
  rw [List.nil_append] at h1
  rw [show [a] ++ [b] = [a, b] from rfl, h1] at h2
  rw [h2]
  simp [flatK, encI]
theorem Cl.rowI2 {w : World} {q : Nat} {a b : Int} {t : TypeId} (h : Cl w q #[.int .i64 a, .int .i64 b] t) : Row encI 1 w (.slice (some ⟨q, 0, none⟩) 2 2) [a, b] := row_block h (flat2I a b) rfl
theorem rowI_atR {w : World} {ao : Option Addr} {n c : Nat} {l : List Int} (h : Row encI 1 w (.slice ao n c) l) (i : Nat) (hi : i < l.length) : ∃ b off, ao = some ⟨b, off, none⟩ ∧ b < w.heap.size ∧ w.cell? ⟨b, off + i, none⟩ = some (.int .i64 l[i]!) := by
  obtain ⟨ao1, cap, e, h1, h2, h3⟩ := h
  cases e
  exact rowI_at h3 i hi (Below.refl _ _)

set_option maxHeartbeats 8000000 in
set_option maxRecDepth 100000 in
theorem nworks_any (w : World) : Calls Try.prog 8 #[] w fun e w' => e = .returned (.bool true) ∧ Below w.heap.size w w' := by
  have B0 : Hid (Below w.heap.size w (((w.alloc (.cells #[.int .i64 5, .int .i64 9] 3)).alloc (.cells #[.string ⟨#[109]⟩] 9)).alloc (.cells #[.bool false, .slice none 0 0, .slice (some ⟨w.heap.size, 0, none⟩) 2 2, .slice (some ⟨w.heap.size + 1, 0, none⟩) 1 1] 26))) := belAlloc _ (belAlloc _ (belAlloc _ (Below.refl _ _)))
  have KN : Cl (((w.alloc (.cells #[.int .i64 5, .int .i64 9] 3)).alloc (.cells #[.string ⟨#[109]⟩] 9)).alloc (.cells #[.bool false, .slice none 0 0, .slice (some ⟨w.heap.size, 0, none⟩) 2 2, .slice (some ⟨w.heap.size + 1, 0, none⟩) 1 1] 26)) (w.heap.size + 1 + 1) #[.bool false, .slice none 0 0, .slice (some ⟨w.heap.size, 0, none⟩) 2 2, .slice (some ⟨w.heap.size + 1, 0, none⟩) 1 1] 26 := Cl.new2 _ _ _ _ _
  have RN : NdR (((w.alloc (.cells #[.int .i64 5, .int .i64 9] 3)).alloc (.cells #[.string ⟨#[109]⟩] 9)).alloc (.cells #[.bool false, .slice none 0 0, .slice (some ⟨w.heap.size, 0, none⟩) 2 2, .slice (some ⟨w.heap.size + 1, 0, none⟩) 1 1] 26)) (.slice none 0 0) (.slice (some ⟨w.heap.size, 0, none⟩) 2 2) (.slice (some ⟨w.heap.size + 1, 0, none⟩) 1 1) exN := ⟨rowNil, (((Cl.new0 _ _ _).alloc _).alloc _).rowI2, ((Cl.new1 _ _ _ _).alloc _).rowS⟩
  go_enter Try.func8, Try.ntmps8
  go_upto_region 2 with fail
  generalize (((w.alloc (.cells #[.int .i64 5, .int .i64 9] 3)).alloc (.cells #[.string ⟨#[109]⟩] 9)).alloc (.cells #[.bool false, .slice none 0 0, .slice (some ⟨w.heap.size, 0, none⟩) 2 2, .slice (some ⟨w.heap.size + 1, 0, none⟩) 1 1] 26)) = w0 at *
  generalize w.heap.size + 1 + 1 = q1 at *
  generalize w.heap.size + 1 = b2 at *
  obtain ⟨b1, hb1⟩ : ∃ b, w.heap.size = b := ⟨_, rfl⟩
  have HW : Hid (w.heap.size = b1) := hb1
  rw [hb1] at KN RN ⊢
  have F1N : Aside (Cl w0 q1 #[.bool false, .slice none 0 0, .slice (some ⟨b1, 0, none⟩) 2 2, .slice (some ⟨b2, 0, none⟩) 1 1] 26) := KN
  have F2R : Aside (NdR w0 (.slice none 0 0) (.slice (some ⟨b1, 0, none⟩) 2 2) (.slice (some ⟨b2, 0, none⟩) 1 1) exN) := RN
  clear KN RN hb1
  obtain ⟨q2N0, q2N1, q2N2, q2N3⟩ := F1N.out.four
  have q2Nl := F1N.out.lt
  have C3 : Hid _ := nencode_any exN _ _ _ w0 F2R.out exN_sm
  rw [exN_en.1] at C3
  rw [exN_en.2.1] at C3
  rw [exN_en.2.2] at C3
  go_wp2_with fail
  refine Calls.mono C3.out ?_
  rintro e w3 ⟨rfl, hb3⟩
  clear C3
  clear q2N0 q2N1 q2N2 q2N3 q2Nl
  have B4 : Hid (Below w.heap.size w w3) := B0.out.trans (hb3.mono B0.out.size)
  have F4N : Aside (Cl w3 q1 #[.bool false, .slice none 0 0, .slice (some ⟨b1, 0, none⟩) 2 2, .slice (some ⟨b2, 0, none⟩) 1 1] 26) := Cl.on F1N.out hb3
  clear F1N
  have F4R : Aside (NdR w3 (.slice none 0 0) (.slice (some ⟨b1, 0, none⟩) 2 2) (.slice (some ⟨b2, 0, none⟩) 1 1) exN) := F2R.out.below hb3
  clear F2R
  clear B0
  clear hb3
  obtain ⟨q4N0, q4N1, q4N2, q4N3⟩ := F4N.out.four
  have q4Nl := F4N.out.lt
  have C5 : Hid _ := nswap_any exN 0 1 [6, 7] [⟨#[99]⟩] _ _ _ (.slice (some ⟨w3.heap.size, 0, none⟩) 2 2) (.slice (some ⟨w3.heap.size + 1, 0, none⟩) 1 1) ((w3.alloc (.cells #[.int .i64 6, .int .i64 7] 3)).alloc (.cells #[.string ⟨#[99]⟩] 9)) (F4R.out.below (belAlloc _ (belAlloc _ (Below.refl _ _)))) exN_sm.l ((Cl.new0 _ _ _).alloc _).rowI2 (Cl.new1 _ _ _ _).rowS (by decide) (by decide)
  rw [exN_sw] at C5
  go_wp2_with fail
  refine Calls.mono C5.out ?_
  rintro e v5 ⟨x5e, x5k, x5s, rfl, o5, h5⟩
  clear C5
  obtain ⟨a5e, c5e, rfl⟩ := ownShape (n := 0) o5.e
  obtain ⟨a5k, c5k, rfl⟩ := ownShape (n := 3) o5.k
  obtain ⟨a5s, c5s, rfl⟩ := ownShape (n := 2) o5.s
  have g5 := (belAlloc _ (belCall h5 (belAlloc _ (belAlloc _ (Below.refl _ _)))) : Below w3.heap.size w3 (v5.alloc (.cells #[.bool (exM).leaf, .slice a5e (0) c5e, .slice a5k (3) c5k, .slice a5s (2) c5s] 26)))
  have F6KM : Aside (Cl (v5.alloc (.cells #[.bool (exM).leaf, .slice a5e (0) c5e, .slice a5k (3) c5k, .slice a5s (2) c5s] 26)) v5.heap.size #[.bool (exM).leaf, .slice a5e (0) c5e, .slice a5k (3) c5k, .slice a5s (2) c5s] 26) := Cl.new _ _ _
  have F7OM : Aside (NdO w3.heap.size (v5.alloc (.cells #[.bool (exM).leaf, .slice a5e (0) c5e, .slice a5k (3) c5k, .slice a5s (2) c5s] 26)) (.slice a5e (0) c5e) (.slice a5k (3) c5k) (.slice a5s (2) c5s) exM) := (o5.below (belAlloc _ (Below.refl _ _))).mono (by simp; omega)
  clear q4N0 q4N1 q4N2 q4N3 q4Nl
  have B8 : Hid (Below w.heap.size w (v5.alloc (.cells #[.bool (exM).leaf, .slice a5e (0) c5e, .slice a5k (3) c5k, .slice a5s (2) c5s] 26))) := B4.out.trans (g5.mono B4.out.size)
  have F8N : Aside (Cl (v5.alloc (.cells #[.bool (exM).leaf, .slice a5e (0) c5e, .slice a5k (3) c5k, .slice a5s (2) c5s] 26)) q1 #[.bool false, .slice none 0 0, .slice (some ⟨b1, 0, none⟩) 2 2, .slice (some ⟨b2, 0, none⟩) 1 1] 26) := Cl.on F4N.out g5
  clear F4N
  have F8R : Aside (NdR (v5.alloc (.cells #[.bool (exM).leaf, .slice a5e (0) c5e, .slice a5k (3) c5k, .slice a5s (2) c5s] 26)) (.slice none 0 0) (.slice (some ⟨b1, 0, none⟩) 2 2) (.slice (some ⟨b2, 0, none⟩) 1 1) exN) := F4R.out.below g5
  clear F4R
  clear B4
  clear g5 h5 o5
  go_upto_region 4 with fail
  generalize (v5.alloc (.cells #[.bool (exM).leaf, .slice a5e (0) c5e, .slice a5k (3) c5k, .slice a5s (2) c5s] 26)) = u5 at *
  generalize v5.heap.size = QM at *
  generalize w3.heap.size = ZM at *
  obtain ⟨q8KM0, q8KM1, q8KM2, q8KM3⟩ := F6KM.out.four
  have q8KMl := F6KM.out.lt
  have C9 : Hid _ := split_any exM _ _ _ u5 F7OM.out.r exM_sm
  rw [exM_sp.1] at C9
  rw [exM_sp.2.1] at C9
  rw [exM_sp.2.2] at C9
  go_wp2_with fail
  refine Calls.mono C9.out ?_
  rintro e v9 ⟨x9e, x9k, x9s, y9e, y9k, y9s, rfl, o9, p9, h9⟩
  clear C9
  obtain ⟨a9e, c9e, rfl⟩ := ownShape (n := 0) o9.e
  obtain ⟨a9k, c9k, rfl⟩ := ownShape (n := 1) o9.k
  obtain ⟨a9s, c9s, rfl⟩ := ownShape (n := 0) o9.s
  obtain ⟨b9e, d9e, rfl⟩ := ownShape (n := 0) p9.e
  obtain ⟨b9k, d9k, rfl⟩ := ownShape (n := 2) p9.k
  obtain ⟨b9s, d9s, rfl⟩ := ownShape (n := 1) p9.s
  have g9 := (belAlloc _ (belAlloc _ h9) : Below u5.heap.size u5 ((v9.alloc (.cells #[.bool false, .slice a9e (0) c9e, .slice a9k (1) c9k, .slice a9s (0) c9s] 26)).alloc (.cells #[.bool false, .slice b9e (0) d9e, .slice b9k (2) d9k, .slice b9s (1) d9s] 26)))
  have F10KA : Aside (Cl ((v9.alloc (.cells #[.bool false, .slice a9e (0) c9e, .slice a9k (1) c9k, .slice a9s (0) c9s] 26)).alloc (.cells #[.bool false, .slice b9e (0) d9e, .slice b9k (2) d9k, .slice b9s (1) d9s] 26)) v9.heap.size #[.bool false, .slice a9e (0) c9e, .slice a9k (1) c9k, .slice a9s (0) c9s] 26) := (Cl.new0 _ _ _).alloc _
  have F11KB : Aside (Cl ((v9.alloc (.cells #[.bool false, .slice a9e (0) c9e, .slice a9k (1) c9k, .slice a9s (0) c9s] 26)).alloc (.cells #[.bool false, .slice b9e (0) d9e, .slice b9k (2) d9k, .slice b9s (1) d9s] 26)) (v9.heap.size + 1) #[.bool false, .slice b9e (0) d9e, .slice b9k (2) d9k, .slice b9s (1) d9s] 26) := Cl.new1 _ _ _ _
  have F12OA : Aside (NdO u5.heap.size ((v9.alloc (.cells #[.bool false, .slice a9e (0) c9e, .slice a9k (1) c9k, .slice a9s (0) c9s] 26)).alloc (.cells #[.bool false, .slice b9e (0) d9e, .slice b9k (2) d9k, .slice b9s (1) d9s] 26)) (.slice a9e (0) c9e) (.slice a9k (1) c9k) (.slice a9s (0) c9s) ⟨false, [], [6], []⟩) := o9.below (belAlloc _ (belAlloc _ (Below.refl _ _)))
  have F13OB : Aside (NdO u5.heap.size ((v9.alloc (.cells #[.bool false, .slice a9e (0) c9e, .slice a9k (1) c9k, .slice a9s (0) c9s] 26)).alloc (.cells #[.bool false, .slice b9e (0) d9e, .slice b9k (2) d9k, .slice b9s (1) d9s] 26)) (.slice b9e (0) d9e) (.slice b9k (2) d9k) (.slice b9s (1) d9s) ⟨false, [], [7, 9], [⟨#[109]⟩]⟩) := p9.below (belAlloc _ (belAlloc _ (Below.refl _ _)))
  clear q8KM0 q8KM1 q8KM2 q8KM3 q8KMl
  have B14 : Hid (Below w.heap.size w ((v9.alloc (.cells #[.bool false, .slice a9e (0) c9e, .slice a9k (1) c9k, .slice a9s (0) c9s] 26)).alloc (.cells #[.bool false, .slice b9e (0) d9e, .slice b9k (2) d9k, .slice b9s (1) d9s] 26))) := B8.out.trans (g9.mono B8.out.size)
  have F14N : Aside (Cl ((v9.alloc (.cells #[.bool false, .slice a9e (0) c9e, .slice a9k (1) c9k, .slice a9s (0) c9s] 26)).alloc (.cells #[.bool false, .slice b9e (0) d9e, .slice b9k (2) d9k, .slice b9s (1) d9s] 26)) q1 #[.bool false, .slice none 0 0, .slice (some ⟨b1, 0, none⟩) 2 2, .slice (some ⟨b2, 0, none⟩) 1 1] 26) := Cl.on F8N.out g9
  clear F8N
  have F14R : Aside (NdR ((v9.alloc (.cells #[.bool false, .slice a9e (0) c9e, .slice a9k (1) c9k, .slice a9s (0) c9s] 26)).alloc (.cells #[.bool false, .slice b9e (0) d9e, .slice b9k (2) d9k, .slice b9s (1) d9s] 26)) (.slice none 0 0) (.slice (some ⟨b1, 0, none⟩) 2 2) (.slice (some ⟨b2, 0, none⟩) 1 1) exN) := F8R.out.below g9
  clear F8R
  have F14KM : Aside (Cl ((v9.alloc (.cells #[.bool false, .slice a9e (0) c9e, .slice a9k (1) c9k, .slice a9s (0) c9s] 26)).alloc (.cells #[.bool false, .slice b9e (0) d9e, .slice b9k (2) d9k, .slice b9s (1) d9s] 26)) QM #[.bool (exM).leaf, .slice a5e (0) c5e, .slice a5k (3) c5k, .slice a5s (2) c5s] 26) := Cl.on F6KM.out g9
  clear F6KM
  have F14OM : Aside (NdO ZM ((v9.alloc (.cells #[.bool false, .slice a9e (0) c9e, .slice a9k (1) c9k, .slice a9s (0) c9s] 26)).alloc (.cells #[.bool false, .slice b9e (0) d9e, .slice b9k (2) d9k, .slice b9s (1) d9s] 26)) (.slice a5e (0) c5e) (.slice a5k (3) c5k) (.slice a5s (2) c5s) exM) := F7OM.out.below g9
  clear F7OM
  clear B8
  clear g9 h9 o9 p9
  go_upto_region 5 with fail
  generalize ((v9.alloc (.cells #[.bool false, .slice a9e (0) c9e, .slice a9k (1) c9k, .slice a9s (0) c9s] 26)).alloc (.cells #[.bool false, .slice b9e (0) d9e, .slice b9k (2) d9k, .slice b9s (1) d9s] 26)) = u9 at *
  generalize v9.heap.size + 1 = QB at *
  generalize v9.heap.size = QA at *
  generalize u5.heap.size = ZA at *
  obtain ⟨q14KM0, q14KM1, q14KM2, q14KM3⟩ := F14KM.out.four
  have q14KMl := F14KM.out.lt
  obtain ⟨q14KA0, q14KA1, q14KA2, q14KA3⟩ := F10KA.out.four
  have q14KAl := F10KA.out.lt
  obtain ⟨q14KB0, q14KB1, q14KB2, q14KB3⟩ := F11KB.out.four
  have q14KBl := F11KB.out.lt
  obtain ⟨q14N0, q14N1, q14N2, q14N3⟩ := F14N.out.four
  have q14Nl := F14N.out.lt
  have C15 : Hid _ := child_any exN ⟨#[97]⟩ _ _ _ u9 F14R.out exN_sm
  rw [exN_c1] at C15
  go_wp2_with fail
  refine Calls.mono C15.out ?_
  rintro e w15 ⟨rfl, hb15⟩
  clear C15
  clear q14KM0 q14KM1 q14KM2 q14KM3 q14KMl q14KA0 q14KA1 q14KA2 q14KA3 q14KAl q14KB0 q14KB1 q14KB2 q14KB3 q14KBl q14N0 q14N1 q14N2 q14N3 q14Nl
  have B16 : Hid (Below w.heap.size w w15) := B14.out.trans (hb15.mono B14.out.size)
  have F16N : Aside (Cl w15 q1 #[.bool false, .slice none 0 0, .slice (some ⟨b1, 0, none⟩) 2 2, .slice (some ⟨b2, 0, none⟩) 1 1] 26) := Cl.on F14N.out hb15
  clear F14N
  have F16R : Aside (NdR w15 (.slice none 0 0) (.slice (some ⟨b1, 0, none⟩) 2 2) (.slice (some ⟨b2, 0, none⟩) 1 1) exN) := F14R.out.below hb15
  clear F14R
  have F16KM : Aside (Cl w15 QM #[.bool (exM).leaf, .slice a5e (0) c5e, .slice a5k (3) c5k, .slice a5s (2) c5s] 26) := Cl.on F14KM.out hb15
  clear F14KM
  have F16OM : Aside (NdO ZM w15 (.slice a5e (0) c5e) (.slice a5k (3) c5k) (.slice a5s (2) c5s) exM) := F14OM.out.below hb15
  clear F14OM
  have F16KA : Aside (Cl w15 QA #[.bool false, .slice a9e (0) c9e, .slice a9k (1) c9k, .slice a9s (0) c9s] 26) := Cl.on F10KA.out hb15
  clear F10KA
  have F16KB : Aside (Cl w15 (QB) #[.bool false, .slice b9e (0) d9e, .slice b9k (2) d9k, .slice b9s (1) d9s] 26) := Cl.on F11KB.out hb15
  clear F11KB
  have F16OA : Aside (NdO ZA w15 (.slice a9e (0) c9e) (.slice a9k (1) c9k) (.slice a9s (0) c9s) ⟨false, [], [6], []⟩) := F12OA.out.below hb15
  clear F12OA
  have F16OB : Aside (NdO ZA w15 (.slice b9e (0) d9e) (.slice b9k (2) d9k) (.slice b9s (1) d9s) ⟨false, [], [7, 9], [⟨#[109]⟩]⟩) := F13OB.out.below hb15
  clear F13OB
  clear B14
  clear hb15
  obtain ⟨q16N0, q16N1, q16N2, q16N3⟩ := F16N.out.four
  have q16Nl := F16N.out.lt
  have C17 : Hid _ := child_any exN ⟨#[109]⟩ _ _ _ w15 F16R.out exN_sm
  rw [exN_c2] at C17
  go_wp2_with fail
  refine Calls.mono C17.out ?_
  rintro e w17 ⟨rfl, hb17⟩
  clear C17
  clear q16N0 q16N1 q16N2 q16N3 q16Nl
  have B18 : Hid (Below w.heap.size w w17) := B16.out.trans (hb17.mono B16.out.size)
  have F18N : Aside (Cl w17 q1 #[.bool false, .slice none 0 0, .slice (some ⟨b1, 0, none⟩) 2 2, .slice (some ⟨b2, 0, none⟩) 1 1] 26) := Cl.on F16N.out hb17
  clear F16N
  have F18R : Aside (NdR w17 (.slice none 0 0) (.slice (some ⟨b1, 0, none⟩) 2 2) (.slice (some ⟨b2, 0, none⟩) 1 1) exN) := F16R.out.below hb17
  clear F16R
  have F18KM : Aside (Cl w17 QM #[.bool (exM).leaf, .slice a5e (0) c5e, .slice a5k (3) c5k, .slice a5s (2) c5s] 26) := Cl.on F16KM.out hb17
  clear F16KM
  have F18OM : Aside (NdO ZM w17 (.slice a5e (0) c5e) (.slice a5k (3) c5k) (.slice a5s (2) c5s) exM) := F16OM.out.below hb17
  clear F16OM
  have F18KA : Aside (Cl w17 QA #[.bool false, .slice a9e (0) c9e, .slice a9k (1) c9k, .slice a9s (0) c9s] 26) := Cl.on F16KA.out hb17
  clear F16KA
  have F18KB : Aside (Cl w17 (QB) #[.bool false, .slice b9e (0) d9e, .slice b9k (2) d9k, .slice b9s (1) d9s] 26) := Cl.on F16KB.out hb17
  clear F16KB
  have F18OA : Aside (NdO ZA w17 (.slice a9e (0) c9e) (.slice a9k (1) c9k) (.slice a9s (0) c9s) ⟨false, [], [6], []⟩) := F16OA.out.below hb17
  clear F16OA
  have F18OB : Aside (NdO ZA w17 (.slice b9e (0) d9e) (.slice b9k (2) d9k) (.slice b9s (1) d9s) ⟨false, [], [7, 9], [⟨#[109]⟩]⟩) := F16OB.out.below hb17
  clear F16OB
  clear B16
  clear hb17
  obtain ⟨q18N0, q18N1, q18N2, q18N3⟩ := F18N.out.four
  have q18Nl := F18N.out.lt
  obtain ⟨q18KM0, q18KM1, q18KM2, q18KM3⟩ := F18KM.out.four
  have q18KMl := F18KM.out.lt
  obtain ⟨gb, gof, ge, gl, g0⟩ := rowI_atR F18OM.out.r.k 0 (by decide)
  subst ge
  obtain ⟨_, _, e9, _, g1⟩ := rowI_atR F18OM.out.r.k 1 (by decide)
  cases e9
  obtain ⟨_, _, e9, _, g2⟩ := rowI_atR F18OM.out.r.k 2 (by decide)
  cases e9
  obtain ⟨tb, tof, te, tl, t0⟩ := rowS_atR F18OM.out.r.s 0 (by decide)
  subst te
  obtain ⟨_, _, e9, _, t1⟩ := rowS_atR F18OM.out.r.s 1 (by decide)
  cases e9
  simp only [Nat.add_zero] at g0 t0
  rw [show exM.ks[0]! = 6 from rfl] at g0
  rw [show exM.ks[1]! = 7 from rfl] at g1
  rw [show exM.ks[2]! = 9 from rfl] at g2
  rw [show exM.ss[0]! = ⟨#[99]⟩ from rfl] at t0
  rw [show exM.ss[1]! = ⟨#[109]⟩ from rfl] at t1
  have C19 : Hid _ := nright_any exN _ _ _ w17 F18R.out exN_sm
  rw [exN_rt] at C19
  go_wp2_with fail
  refine Calls.mono C19.out ?_
  rintro e w19 ⟨rfl, hb19⟩
  clear C19
  clear q18N0 q18N1 q18N2 q18N3 q18Nl q18KM0 q18KM1 q18KM2 q18KM3 q18KMl
  have B20 : Hid (Below w.heap.size w w19) := B18.out.trans (hb19.mono B18.out.size)
  have F20N : Aside (Cl w19 q1 #[.bool false, .slice none 0 0, .slice (some ⟨b1, 0, none⟩) 2 2, .slice (some ⟨b2, 0, none⟩) 1 1] 26) := Cl.on F18N.out hb19
  clear F18N
  have F20R : Aside (NdR w19 (.slice none 0 0) (.slice (some ⟨b1, 0, none⟩) 2 2) (.slice (some ⟨b2, 0, none⟩) 1 1) exN) := F18R.out.below hb19
  clear F18R
  clear B18
  clear hb19
  obtain ⟨q20N0, q20N1, q20N2, q20N3⟩ := F20N.out.four
  have q20Nl := F20N.out.lt
  have C21 : Hid _ := fits_any exN _ _ _ w19 F20R.out exN_sm
  rw [exN_fi] at C21
  go_wp2_with fail
  refine Calls.mono C21.out ?_
  rintro e w21 ⟨rfl, hb21⟩
  clear C21
  clear q20N0 q20N1 q20N2 q20N3 q20Nl
  have B22 : Hid (Below w.heap.size w w21) := B20.out.trans (hb21.mono B20.out.size)
  have F22N : Aside (Cl w21 q1 #[.bool false, .slice none 0 0, .slice (some ⟨b1, 0, none⟩) 2 2, .slice (some ⟨b2, 0, none⟩) 1 1] 26) := Cl.on F20N.out hb21
  clear F20N
  have F22R : Aside (NdR w21 (.slice none 0 0) (.slice (some ⟨b1, 0, none⟩) 2 2) (.slice (some ⟨b2, 0, none⟩) 1 1) exN) := F20R.out.below hb21
  clear F20R
  clear B20
  clear hb21
  obtain ⟨q22N0, q22N1, q22N2, q22N3⟩ := F22N.out.four
  have q22Nl := F22N.out.lt
  have C23 : Hid _ := nsize_any exN _ _ _ w21 F22R.out exN_sm
  rw [exN_sz] at C23
  go_wp2_with fail
  refine Calls.mono C23.out ?_
  rintro e w23 ⟨rfl, hb23⟩
  clear C23
  clear q22N0 q22N1 q22N2 q22N3 q22Nl
  have B24 : Hid (Below w.heap.size w w23) := B22.out.trans (hb23.mono B22.out.size)
  have F24N : Aside (Cl w23 q1 #[.bool false, .slice none 0 0, .slice (some ⟨b1, 0, none⟩) 2 2, .slice (some ⟨b2, 0, none⟩) 1 1] 26) := Cl.on F22N.out hb23
  clear F22N
  have F24R : Aside (NdR w23 (.slice none 0 0) (.slice (some ⟨b1, 0, none⟩) 2 2) (.slice (some ⟨b2, 0, none⟩) 1 1) exN) := F22R.out.below hb23
  clear F22R
  clear B22
  clear hb23
  go_wp2
  go_ret
  exact ⟨rfl, B24.out⟩

end Go.Proofs.Ytmamnlphhiaeoaa
