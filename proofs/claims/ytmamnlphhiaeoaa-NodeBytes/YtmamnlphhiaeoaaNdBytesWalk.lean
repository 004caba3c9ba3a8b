/-
  The walk of NodeBytes.
-/
import Derived.Test.YtmamnlphhiaeoaaNdWorks
import Derived.Test.YtmamnlphhiaeoaaNdOpen
import Derived.Test.YtmamnlphhiaeoaaNdBk
import Derived.Test.YtmamnlphhiaeoaaNdRefB
import Derived.Test.YtmamnlphhiaeoaaNdRefD
namespace Go.Proofs.Ytmamnlphhiaeoaa
open Go.Shelf Go.RowKit Go.Lib Go.Sort

theorem rndecode_is (kind : Int) (S : ByteArray) (w : World) (hS : S.size ≤ maxLen) (n : Nd) (b : Bool) (h1 : deR kind S.data.toList = n) (h2 : deO kind S.data.toList = b) :
    Calls Try.prog 19 #[.int .u8 kind, .string S] w fun e w' => ∃ ve vk vs, e = .returned (.tuple #[.agg #[.bool n.leaf, ve, vk, vs], .bool b]) ∧ NdW w.heap.size w' ve vk vs n ∧ Below w.heap.size w w' := by
  have h := rndecode_any kind S w hS
  unfold GvE at h
  rw [h1, h2] at h
  exact h
theorem deR_sm (kind : Int) (S : List UInt8) : Sm (deR kind S) := by
  cases h : deN kind S with
  | none =>
    rw [(deR_none h).1]
    exact ⟨by decide, by decide, by decide, by decide, by decide⟩
  | some n =>
    rw [(deR_some h).1]
    obtain ⟨h1, h2, _⟩ := deN_some h
    exact sm_fits h1 h2

theorem szN_sm {n : Nd} (h : Sm n) : szN n ≤ 1000100 := by
  have := h.ez
  have := h.sz
  unfold szN
  split <;> omega

/-- What holds between the operations of the region. -/
def JBy (W0 : World) (QA QC : Nat) (VA VC : Value) (y0 y1 y2 y3 y4 y5 y6 y7 y8 y9 y10 y11 y12 y13 y14 y15 y17 y19 y20 y21 y22 y23 y24 y25 y26 y27 y28 y29 y30 y31 y32 y33 y34 y35 y36 y37 y38 y39 y40 y41 y42 y43 y44 y45 y46 y47 y48 y49 y50 y51 y52 y53 y54 y55 y56 y57 y58 y59 y60 y61 y62 y63 y64 y65 y66 y67 y68 y69 y70 y71 y72 y73 y74 y75 y76 y77 y78 y79 y80 y81 y82 y83 y84 y85 y86 y87 y88 y89 y90 y91 y92 y93 y94 y95 y96 y97 y98 y99 y100 y101 y102 y103 y104 y105 y106 y107 y108 y109 y110 y111 y112 y113 y114 y115 y116 y117 y122 y123 y124 y125 y126 y127 y128 y129 y130 y131 y132 y133 y134 y135 y136 y137 y138 : Value) (f : List Bool) (a : Act) (w : World) : Prop :=
  ∃ f0 f1 f2 f3 f4 : Bool, f = [f0, f1, f2, f3, f4] ∧ f4 = false ∧ ∃ x118 x119 x120 x121 : Value,
    a = { tmps := #[y0, y1, y2, y3, y4, y5, y6, y7, y8, y9, y10, y11, y12, y13, y14, y15, .pointer (some ⟨QA, 0, none⟩), y17, .pointer (some ⟨QC, 0, none⟩), y19, y20, y21, y22, y23, y24, y25, y26, y27, y28, y29, y30, y31, y32, y33, y34, y35, y36, y37, y38, y39, y40, y41, y42, y43, y44, y45, y46, y47, y48, y49, y50, y51, y52, y53, y54, y55, y56, y57, y58, y59, y60, y61, y62, y63, y64, y65, y66, y67, y68, y69, y70, y71, y72, y73, y74, y75, y76, y77, y78, y79, y80, y81, y82, y83, y84, y85, y86, y87, y88, y89, y90, y91, y92, y93, y94, y95, y96, y97, y98, y99, y100, y101, y102, y103, y104, y105, y106, y107, y108, y109, y110, y111, y112, y113, y114, y115, y116, y117, x118, x119, x120, x121, y122, y123, y124, y125, y126, y127, y128, y129, y130, y131, y132, y133, y134, y135, y136, y137, y138], defers := [] } ∧ Below W0.heap.size W0 w ∧
    Hid (f0 = true → x118 = VA) ∧
    Hid (f1 = true → x119 = VA) ∧
    Hid (f2 = true → x120 = VC) ∧
    Hid (f3 = true → x121 = .bool true)
theorem JBy.elim {W0 : World} {QA QC : Nat} {VA VC : Value} {y0 y1 y2 y3 y4 y5 y6 y7 y8 y9 y10 y11 y12 y13 y14 y15 y17 y19 y20 y21 y22 y23 y24 y25 y26 y27 y28 y29 y30 y31 y32 y33 y34 y35 y36 y37 y38 y39 y40 y41 y42 y43 y44 y45 y46 y47 y48 y49 y50 y51 y52 y53 y54 y55 y56 y57 y58 y59 y60 y61 y62 y63 y64 y65 y66 y67 y68 y69 y70 y71 y72 y73 y74 y75 y76 y77 y78 y79 y80 y81 y82 y83 y84 y85 y86 y87 y88 y89 y90 y91 y92 y93 y94 y95 y96 y97 y98 y99 y100 y101 y102 y103 y104 y105 y106 y107 y108 y109 y110 y111 y112 y113 y114 y115 y116 y117 y122 y123 y124 y125 y126 y127 y128 y129 y130 y131 y132 y133 y134 y135 y136 y137 y138 : Value} {f : List Bool} {a : Act} {w : World} {C : List Bool → Act → World → Prop} (h : JBy W0 QA QC VA VC y0 y1 y2 y3 y4 y5 y6 y7 y8 y9 y10 y11 y12 y13 y14 y15 y17 y19 y20 y21 y22 y23 y24 y25 y26 y27 y28 y29 y30 y31 y32 y33 y34 y35 y36 y37 y38 y39 y40 y41 y42 y43 y44 y45 y46 y47 y48 y49 y50 y51 y52 y53 y54 y55 y56 y57 y58 y59 y60 y61 y62 y63 y64 y65 y66 y67 y68 y69 y70 y71 y72 y73 y74 y75 y76 y77 y78 y79 y80 y81 y82 y83 y84 y85 y86 y87 y88 y89 y90 y91 y92 y93 y94 y95 y96 y97 y98 y99 y100 y101 y102 y103 y104 y105 y106 y107 y108 y109 y110 y111 y112 y113 y114 y115 y116 y117 y122 y123 y124 y125 y126 y127 y128 y129 y130 y131 y132 y133 y134 y135 y136 y137 y138 f a w)
    (k : ∀ (f0 f1 f2 f3 f4 : Bool) (x118 x119 x120 x121 : Value), f4 = false → Below W0.heap.size W0 w →
      Hid (f0 = true → x118 = VA) →
      Hid (f1 = true → x119 = VA) →
      Hid (f2 = true → x120 = VC) →
      Hid (f3 = true → x121 = .bool true) →
      C [f0, f1, f2, f3, f4] { tmps := #[y0, y1, y2, y3, y4, y5, y6, y7, y8, y9, y10, y11, y12, y13, y14, y15, .pointer (some ⟨QA, 0, none⟩), y17, .pointer (some ⟨QC, 0, none⟩), y19, y20, y21, y22, y23, y24, y25, y26, y27, y28, y29, y30, y31, y32, y33, y34, y35, y36, y37, y38, y39, y40, y41, y42, y43, y44, y45, y46, y47, y48, y49, y50, y51, y52, y53, y54, y55, y56, y57, y58, y59, y60, y61, y62, y63, y64, y65, y66, y67, y68, y69, y70, y71, y72, y73, y74, y75, y76, y77, y78, y79, y80, y81, y82, y83, y84, y85, y86, y87, y88, y89, y90, y91, y92, y93, y94, y95, y96, y97, y98, y99, y100, y101, y102, y103, y104, y105, y106, y107, y108, y109, y110, y111, y112, y113, y114, y115, y116, y117, x118, x119, x120, x121, y122, y123, y124, y125, y126, y127, y128, y129, y130, y131, y132, y133, y134, y135, y136, y137, y138], defers := [] } w) : C f a w :=
  let ⟨f0, f1, f2, f3, f4, ef, e, x118, x119, x120, x121, ea, hB, h0, h1, h2, h3⟩ := h
  ef ▸ ea ▸ k f0 f1 f2 f3 f4 x118 x119 x120 x121 e hB h0 h1 h2 h3

set_option maxHeartbeats 16000000 in
set_option maxRecDepth 100000 in
theorem nodeBytes_walk (v0 : Value) (n : Nd) (kind : Int) (body : ByteArray) (w : World) (h0 : NdA w v0 n) (_hkd : 0 ≤ kind ∧ kind ≤ 255) (hb : body.size ≤ maxLen) :
    Calls Try.prog 3 #[v0, .int .u8 kind, .string body] w fun e w' => e = .returned (.bool true) ∧ Below w.heap.size w w' := by
  obtain ⟨ve, vk, vs, rfl, h0⟩ := h0
  obtain ⟨lf, es, ks, ss⟩ := n
  obtain ⟨ae, ce, rfl, _⟩ := rowShape h0.e
  obtain ⟨ak, ck, rfl, _⟩ := rowShape h0.k
  obtain ⟨az, cz, rfl, _⟩ := rowShape h0.s
  simp only at *
  have B0 : Hid (Below w.heap.size w (w.alloc (.cells #[.bool lf, .slice ae es.length ce, .slice ak ks.length ck, .slice az ss.length cz] 26))) := belAlloc _ (Below.refl _ _)
  have KP : Cl (w.alloc (.cells #[.bool lf, .slice ae es.length ce, .slice ak ks.length ck, .slice az ss.length cz] 26)) w.heap.size #[.bool lf, .slice ae es.length ce, .slice ak ks.length ck, .slice az ss.length cz] 26 := Cl.new0 _ _ _
  have HN := h0.below B0.out
  clear h0
  have HBm : Hid (body.size ≤ maxLen) := hb
  clear hb
  go_enter Try.func3, Try.ntmps3
  go_upto_region 1 with fail
  generalize (w.alloc (.cells #[.bool lf, .slice ae es.length ce, .slice ak ks.length ck, .slice az ss.length cz] 26)) = w0 at *
  obtain ⟨p, hp⟩ : ∃ p, w.heap.size = p := ⟨_, rfl⟩
  have HP : Hid (w.heap.size = p) := hp
  rw [hp] at KP ⊢
  clear hp
  have F1P : Aside (Cl w0 p #[.bool lf, .slice ae es.length ce, .slice ak ks.length ck, .slice az ss.length cz] 26) := KP
  have F2N : Aside (NdR w0 (.slice ae es.length ce) (.slice ak ks.length ck) (.slice az ss.length cz) ⟨lf, es, ks, ss⟩) := HN
  clear KP HN
  have C3 : Hid _ := nworks_any w0
  go_wp2_with fail
  refine Calls.mono C3.out ?_
  rintro e w3 ⟨rfl, hb3⟩
  clear C3
  have B4 : Hid (Below w.heap.size w w3) := B0.out.trans (hb3.mono B0.out.size)
  have F4P : Aside (Cl w3 p #[.bool lf, .slice ae es.length ce, .slice ak ks.length ck, .slice az ss.length cz] 26) := Cl.on F1P.out hb3
  clear F1P
  have F4N : Aside (NdR w3 (.slice ae es.length ce) (.slice ak ks.length ck) (.slice az ss.length cz) ⟨lf, es, ks, ss⟩) := F2N.out.below hb3
  clear F2N
  clear B0
  clear hb3
  obtain ⟨q4P0, q4P1, q4P2, q4P3⟩ := F4P.out.four
  have q4Pl := F4P.out.lt
  have CO : Hid _ := nover_any ⟨lf, es, ks, ss⟩ _ _ _ w3 F4N.out
  go_wp2_with fail
  refine Calls.mono CO.out ?_
  rintro e wo ⟨hov, hbo⟩
  clear CO
  clear q4P0 q4P1 q4P2 q4P3 q4Pl
  have B6 : Hid (Below w.heap.size w wo) := B4.out.trans (hbo.mono B4.out.size)
  have F6P : Aside (Cl wo p #[.bool lf, .slice ae es.length ce, .slice ak ks.length ck, .slice az ss.length cz] 26) := Cl.on F4P.out hbo
  clear F4P
  have F6N : Aside (NdR wo (.slice ae es.length ce) (.slice ak ks.length ck) (.slice az ss.length cz) ⟨lf, es, ks, ss⟩) := F4N.out.below hbo
  clear F4N
  clear B4
  clear hbo
  rcases hov with rfl | ⟨rfl, ov⟩
  ·
    go_wp2
    go_ret
    exact ⟨rfl, B6.out⟩
  ·
    by_cases hkl : 1000 < body.size
    ·
      have hklz : (1000 : Int) < (body.size : Int) := by omega
      go_wp2
      go_ret
      exact ⟨rfl, B6.out⟩
    ·
      have hklz : ¬ (1000 : Int) < (body.size : Int) := by omega
      have sm := ov.sm
      have s1 := ov.e
      have s2 := ov.k
      have s3 := ov.s
      simp only at s1 s2 s3
      obtain ⟨q6P0, q6P1, q6P2, q6P3⟩ := F6P.out.four
      have q6Pl := F6P.out.lt
      have C7 : Hid _ := of_any lf _ _ _ wo ⟨lf, es, ks, ss⟩ F6N.out
      go_wp2_with fail
      refine Calls.mono C7.out ?_
      rintro e v7 ⟨rfl, h7⟩
      clear C7
      have g7 := (belAlloc _ h7 : Below wo.heap.size wo (v7.alloc (.cells #[.bool lf, .slice ae es.length ce, .slice ak ks.length ck, .slice az ss.length cz] 30)))
      have F8KX : Aside (Cl (v7.alloc (.cells #[.bool lf, .slice ae es.length ce, .slice ak ks.length ck, .slice az ss.length cz] 30)) v7.heap.size #[.bool lf, .slice ae es.length ce, .slice ak ks.length ck, .slice az ss.length cz] 30) := Cl.new _ _ _
      clear q6P0 q6P1 q6P2 q6P3 q6Pl
      have B9 : Hid (Below w.heap.size w (v7.alloc (.cells #[.bool lf, .slice ae es.length ce, .slice ak ks.length ck, .slice az ss.length cz] 30))) := B6.out.trans (g7.mono B6.out.size)
      have F9P : Aside (Cl (v7.alloc (.cells #[.bool lf, .slice ae es.length ce, .slice ak ks.length ck, .slice az ss.length cz] 30)) p #[.bool lf, .slice ae es.length ce, .slice ak ks.length ck, .slice az ss.length cz] 26) := Cl.on F6P.out g7
      clear F6P
      have F9N : Aside (NdR (v7.alloc (.cells #[.bool lf, .slice ae es.length ce, .slice ak ks.length ck, .slice az ss.length cz] 30)) (.slice ae es.length ce) (.slice ak ks.length ck) (.slice az ss.length cz) ⟨lf, es, ks, ss⟩) := F6N.out.below g7
      clear F6N
      clear B6
      clear g7 h7
      go_upto_region 8 with fail
      generalize (v7.alloc (.cells #[.bool lf, .slice ae es.length ce, .slice ak ks.length ck, .slice az ss.length cz] 30)) = u7 at *
      generalize v7.heap.size = QX at *
      obtain ⟨zs, hzs⟩ : ∃ x, szN ⟨lf, es, ks, ss⟩ = x := ⟨_, rfl⟩
      have HZ : Hid (szN ⟨lf, es, ks, ss⟩ = zs) := hzs
      obtain ⟨rt, hrt⟩ : ∃ x, rtN ⟨lf, es, ks, ss⟩ = x := ⟨_, rfl⟩
      have HR : Hid (rtN ⟨lf, es, ks, ss⟩ = rt) := hrt
      have fz : fiN ⟨lf, es, ks, ss⟩ = (rt && decide (zs ≤ 240)) := by unfold fiN; rw [hrt, hzs]
      have zb : zs ≤ 1000100 := by rw [← hzs]; exact szN_sm sm
      clear hzs hrt
      obtain ⟨q9KX0, q9KX1, q9KX2, q9KX3⟩ := F8KX.out.four
      have q9KXl := F8KX.out.lt
      have C10 : Hid _ := rnright_any ⟨lf, es, ks, ss⟩ _ _ _ u7 F9N.out sm
      rw [HR.out] at C10
      go_wp2_with fail
      refine Calls.mono C10.out ?_
      rintro e w10 ⟨rfl, hb10⟩
      clear C10
      clear q9KX0 q9KX1 q9KX2 q9KX3 q9KXl
      have B11 : Hid (Below w.heap.size w w10) := B9.out.trans (hb10.mono B9.out.size)
      have F11P : Aside (Cl w10 p #[.bool lf, .slice ae es.length ce, .slice ak ks.length ck, .slice az ss.length cz] 26) := Cl.on F9P.out hb10
      clear F9P
      have F11N : Aside (NdR w10 (.slice ae es.length ce) (.slice ak ks.length ck) (.slice az ss.length cz) ⟨lf, es, ks, ss⟩) := F9N.out.below hb10
      clear F9N
      have F11KX : Aside (Cl w10 QX #[.bool lf, .slice ae es.length ce, .slice ak ks.length ck, .slice az ss.length cz] 30) := Cl.on F8KX.out hb10
      clear F8KX
      clear B9
      clear hb10
      obtain ⟨q11KX0, q11KX1, q11KX2, q11KX3⟩ := F11KX.out.four
      have q11KXl := F11KX.out.lt
      have C12 : Hid _ := rnsize_any ⟨lf, es, ks, ss⟩ _ _ _ w10 F11N.out sm
      rw [HZ.out] at C12
      go_wp2_with fail
      refine Calls.mono C12.out ?_
      rintro e w12 ⟨rfl, hb12⟩
      clear C12
      clear q11KX0 q11KX1 q11KX2 q11KX3 q11KXl
      have B13 : Hid (Below w.heap.size w w12) := B11.out.trans (hb12.mono B11.out.size)
      have F13P : Aside (Cl w12 p #[.bool lf, .slice ae es.length ce, .slice ak ks.length ck, .slice az ss.length cz] 26) := Cl.on F11P.out hb12
      clear F11P
      have F13N : Aside (NdR w12 (.slice ae es.length ce) (.slice ak ks.length ck) (.slice az ss.length cz) ⟨lf, es, ks, ss⟩) := F11N.out.below hb12
      clear F11N
      have F13KX : Aside (Cl w12 QX #[.bool lf, .slice ae es.length ce, .slice ak ks.length ck, .slice az ss.length cz] 30) := Cl.on F11KX.out hb12
      clear F11KX
      clear B11
      clear hb12
      obtain ⟨q13P0, q13P1, q13P2, q13P3⟩ := F13P.out.four
      have q13Pl := F13P.out.lt
      have C14 : Hid _ := nright_any ⟨lf, es, ks, ss⟩ _ _ _ w12 F13N.out sm
      rw [HR.out] at C14
      go_wp2_with fail
      refine Calls.mono C14.out ?_
      rintro e w14 ⟨rfl, hb14⟩
      clear C14
      clear q13P0 q13P1 q13P2 q13P3 q13Pl
      have B15 : Hid (Below w.heap.size w w14) := B13.out.trans (hb14.mono B13.out.size)
      have F15P : Aside (Cl w14 p #[.bool lf, .slice ae es.length ce, .slice ak ks.length ck, .slice az ss.length cz] 26) := Cl.on F13P.out hb14
      clear F13P
      have F15N : Aside (NdR w14 (.slice ae es.length ce) (.slice ak ks.length ck) (.slice az ss.length cz) ⟨lf, es, ks, ss⟩) := F13N.out.below hb14
      clear F13N
      have F15KX : Aside (Cl w14 QX #[.bool lf, .slice ae es.length ce, .slice ak ks.length ck, .slice az ss.length cz] 30) := Cl.on F13KX.out hb14
      clear F13KX
      clear B13
      clear hb14
      obtain ⟨q15P0, q15P1, q15P2, q15P3⟩ := F15P.out.four
      have q15Pl := F15P.out.lt
      obtain ⟨dn, d1⟩ : ∃ x, deR kind body.data.toList = x := ⟨_, rfl⟩
      obtain ⟨ok, d2⟩ : ∃ x, deO kind body.data.toList = x := ⟨_, rfl⟩
      obtain ⟨er, d3⟩ : ∃ x, deE2 ok = x := ⟨_, rfl⟩
      have dsm : Sm dn := by rw [← d1]; exact deR_sm _ _
      have D1 : Hid _ := d1
      have D2 : Hid _ := d2
      have D3 : Hid (deE2 ok = er) := d3
      clear d1 d2 d3
      cases rt with
      | false =>
        simp only [Bool.false_and] at fz
        obtain ⟨y1, y2, y3⟩ := en_no HR.out
        have Y1 : Hid _ := y1
        have Y2 : Hid _ := y2
        have Y3 : Hid _ := y3
        clear y1 y2 y3
        have C16 : Hid _ := nsize_any ⟨lf, es, ks, ss⟩ _ _ _ w14 F15N.out sm
        rw [HZ.out] at C16
        go_wp2_with fail
        refine Calls.mono C16.out ?_
        rintro e w16 ⟨rfl, hb16⟩
        clear C16
        clear q15P0 q15P1 q15P2 q15P3 q15Pl
        have B17 : Hid (Below w.heap.size w w16) := B15.out.trans (hb16.mono B15.out.size)
        have F17P : Aside (Cl w16 p #[.bool lf, .slice ae es.length ce, .slice ak ks.length ck, .slice az ss.length cz] 26) := Cl.on F15P.out hb16
        clear F15P
        have F17N : Aside (NdR w16 (.slice ae es.length ce) (.slice ak ks.length ck) (.slice az ss.length cz) ⟨lf, es, ks, ss⟩) := F15N.out.below hb16
        clear F15N
        have F17KX : Aside (Cl w16 QX #[.bool lf, .slice ae es.length ce, .slice ak ks.length ck, .slice az ss.length cz] 30) := Cl.on F15KX.out hb16
        clear F15KX
        clear B15
        clear hb16
        obtain ⟨q17P0, q17P1, q17P2, q17P3⟩ := F17P.out.four
        have q17Pl := F17P.out.lt
        have C18 : Hid _ := fits_any ⟨lf, es, ks, ss⟩ _ _ _ w16 F17N.out sm
        rw [fz] at C18
        go_wp2_with fail
        refine Calls.mono C18.out ?_
        rintro e w18 ⟨rfl, hb18⟩
        clear C18
        clear q17P0 q17P1 q17P2 q17P3 q17Pl
        have B19 : Hid (Below w.heap.size w w18) := B17.out.trans (hb18.mono B17.out.size)
        have F19P : Aside (Cl w18 p #[.bool lf, .slice ae es.length ce, .slice ak ks.length ck, .slice az ss.length cz] 26) := Cl.on F17P.out hb18
        clear F17P
        have F19N : Aside (NdR w18 (.slice ae es.length ce) (.slice ak ks.length ck) (.slice az ss.length cz) ⟨lf, es, ks, ss⟩) := F17N.out.below hb18
        clear F17N
        have F19KX : Aside (Cl w18 QX #[.bool lf, .slice ae es.length ce, .slice ak ks.length ck, .slice az ss.length cz] 30) := Cl.on F17KX.out hb18
        clear F17KX
        clear B17
        clear hb18
        obtain ⟨q19P0, q19P1, q19P2, q19P3⟩ := F19P.out.four
        have q19Pl := F19P.out.lt
        have C20 : Hid _ := nencode_any ⟨lf, es, ks, ss⟩ _ _ _ w18 F19N.out sm
        rw [Y1.out] at C20
        rw [Y2.out] at C20
        rw [Y3.out] at C20
        go_wp2_with fail
        refine Calls.mono C20.out ?_
        rintro e w20 ⟨rfl, hb20⟩
        clear C20
        clear q19P0 q19P1 q19P2 q19P3 q19Pl
        have B21 : Hid (Below w.heap.size w w20) := B19.out.trans (hb20.mono B19.out.size)
        have F21P : Aside (Cl w20 p #[.bool lf, .slice ae es.length ce, .slice ak ks.length ck, .slice az ss.length cz] 26) := Cl.on F19P.out hb20
        clear F19P
        have F21N : Aside (NdR w20 (.slice ae es.length ce) (.slice ak ks.length ck) (.slice az ss.length cz) ⟨lf, es, ks, ss⟩) := F19N.out.below hb20
        clear F19N
        have F21KX : Aside (Cl w20 QX #[.bool lf, .slice ae es.length ce, .slice ak ks.length ck, .slice az ss.length cz] 30) := Cl.on F19KX.out hb20
        clear F19KX
        clear B19
        clear hb20
        have C22 : Hid _ := ndecode_is kind body w20 HBm.out dn ok D1.out D2.out er D3.out
        go_wp2_with fail
        refine Calls.mono C22.out ?_
        rintro e v22 ⟨x22e, x22k, x22s, rfl, o22, h22⟩
        clear C22
        obtain ⟨a22e, c22e, rfl, _⟩ := rowShape o22.r.e
        obtain ⟨a22k, c22k, rfl, _⟩ := rowShape o22.r.k
        obtain ⟨a22s, c22s, rfl, _⟩ := rowShape o22.r.s
        have g22 := (belAlloc _ h22 : Below w20.heap.size w20 (v22.alloc (.cells #[.bool dn.leaf, .slice a22e (dn.es.length) c22e, .slice a22k (dn.ks.length) c22k, .slice a22s (dn.ss.length) c22s] 26)))
        have F23KA : Aside (Cl (v22.alloc (.cells #[.bool dn.leaf, .slice a22e (dn.es.length) c22e, .slice a22k (dn.ks.length) c22k, .slice a22s (dn.ss.length) c22s] 26)) v22.heap.size #[.bool dn.leaf, .slice a22e (dn.es.length) c22e, .slice a22k (dn.ks.length) c22k, .slice a22s (dn.ss.length) c22s] 26) := Cl.new _ _ _
        have F24RA : Aside (NdR (v22.alloc (.cells #[.bool dn.leaf, .slice a22e (dn.es.length) c22e, .slice a22k (dn.ks.length) c22k, .slice a22s (dn.ss.length) c22s] 26)) (.slice a22e (dn.es.length) c22e) (.slice a22k (dn.ks.length) c22k) (.slice a22s (dn.ss.length) c22s) dn) := o22.r.below (belAlloc _ (Below.refl _ _))
        have B25 : Hid (Below w.heap.size w (v22.alloc (.cells #[.bool dn.leaf, .slice a22e (dn.es.length) c22e, .slice a22k (dn.ks.length) c22k, .slice a22s (dn.ss.length) c22s] 26))) := B21.out.trans (g22.mono B21.out.size)
        clear B21
        clear g22 h22 o22
        go_upto_region 25 with fail
        generalize (v22.alloc (.cells #[.bool dn.leaf, .slice a22e (dn.es.length) c22e, .slice a22k (dn.ks.length) c22k, .slice a22s (dn.ss.length) c22s] 26)) = u22 at *
        generalize v22.heap.size = QA at *
        have C26 : Hid _ := rndecode_is kind body u22 HBm.out dn ok D1.out D2.out
        go_wp2_with fail
        refine Calls.mono C26.out ?_
        rintro e v26 ⟨x26e, x26k, x26s, rfl, o26, h26⟩
        clear C26
        obtain ⟨a26e, c26e, rfl, _⟩ := rowShape o26.r.e
        obtain ⟨a26k, c26k, rfl, _⟩ := rowShape o26.r.k
        obtain ⟨a26s, c26s, rfl, _⟩ := rowShape o26.r.s
        have g26 := (belAlloc _ h26 : Below u22.heap.size u22 (v26.alloc (.cells #[.bool dn.leaf, .slice a26e (dn.es.length) c26e, .slice a26k (dn.ks.length) c26k, .slice a26s (dn.ss.length) c26s] 30)))
        have F27KC : Aside (Cl (v26.alloc (.cells #[.bool dn.leaf, .slice a26e (dn.es.length) c26e, .slice a26k (dn.ks.length) c26k, .slice a26s (dn.ss.length) c26s] 30)) v26.heap.size #[.bool dn.leaf, .slice a26e (dn.es.length) c26e, .slice a26k (dn.ks.length) c26k, .slice a26s (dn.ss.length) c26s] 30) := Cl.new _ _ _
        have F28RC : Aside (NdR (v26.alloc (.cells #[.bool dn.leaf, .slice a26e (dn.es.length) c26e, .slice a26k (dn.ks.length) c26k, .slice a26s (dn.ss.length) c26s] 30)) (.slice a26e (dn.es.length) c26e) (.slice a26k (dn.ks.length) c26k) (.slice a26s (dn.ss.length) c26s) dn) := o26.r.below (belAlloc _ (Below.refl _ _))
        have B29 : Hid (Below w.heap.size w (v26.alloc (.cells #[.bool dn.leaf, .slice a26e (dn.es.length) c26e, .slice a26k (dn.ks.length) c26k, .slice a26s (dn.ss.length) c26s] 30))) := B25.out.trans (g26.mono B25.out.size)
        have F29KA : Aside (Cl (v26.alloc (.cells #[.bool dn.leaf, .slice a26e (dn.es.length) c26e, .slice a26k (dn.ks.length) c26k, .slice a26s (dn.ss.length) c26s] 30)) QA #[.bool dn.leaf, .slice a22e (dn.es.length) c22e, .slice a22k (dn.ks.length) c22k, .slice a22s (dn.ss.length) c22s] 26) := Cl.on F23KA.out g26
        clear F23KA
        have F29RA : Aside (NdR (v26.alloc (.cells #[.bool dn.leaf, .slice a26e (dn.es.length) c26e, .slice a26k (dn.ks.length) c26k, .slice a26s (dn.ss.length) c26s] 30)) (.slice a22e (dn.es.length) c22e) (.slice a22k (dn.ks.length) c22k) (.slice a22s (dn.ss.length) c22s) dn) := F24RA.out.below g26
        clear F24RA
        clear B25
        clear g26 h26 o26
        go_upto_region 26 with fail
        generalize (v26.alloc (.cells #[.bool dn.leaf, .slice a26e (dn.es.length) c26e, .slice a26k (dn.ks.length) c26k, .slice a26s (dn.ss.length) c26s] 30)) = u26 at *
        generalize v26.heap.size = QC at *
        refine region_inv 4 (JBy u26 QA QC (.agg #[.bool dn.leaf, .slice a22e (dn.es.length) c22e, .slice a22k (dn.ks.length) c22k, .slice a22s (dn.ss.length) c22s]) (.agg #[.bool dn.leaf, .slice a26e (dn.es.length) c26e, .slice a26k (dn.ks.length) c26k, .slice a26s (dn.ss.length) c26s]) _ _ _ _ _ _ _ _ _ _ _ _ _ _ _ _ _ _ _ _ _ _ _ _ _ _ _ _ _ _ _ _ _ _ _ _ _ _ _ _ _ _ _ _ _ _ _ _ _ _ _ _ _ _ _ _ _ _ _ _ _ _ _ _ _ _ _ _ _ _ _ _ _ _ _ _ _ _ _ _ _ _ _ _ _ _ _ _ _ _ _ _ _ _ _ _ _ _ _ _ _ _ _ _ _ _ _ _ _ _ _ _ _ _ _ _ _ _ _ _ _ _ _ _ _ _ _ _ _ _ _ _ _) (by kernel_rfl) (by kernel_rfl) (by kernel_rfl) ⟨false, false, false, false, false, rfl, rfl, _, _, _, _, rfl, (Below.refl _ u26).drew, (fun h => by cases h), (fun h => by cases h), (fun h => by cases h), (fun h => by cases h)⟩ ?_ ?_ ?_
        · intro i f a w' hne hl hJ
          refine JBy.elim hJ (C := fun f a w' => i ∈ Region.ready .any _ f.toArray → wpOp _ _ _ i (fun a' w'' => JBy u26 QA QC (.agg #[.bool dn.leaf, .slice a22e (dn.es.length) c22e, .slice a22k (dn.ks.length) c22k, .slice a22s (dn.ss.length) c22s]) (.agg #[.bool dn.leaf, .slice a26e (dn.es.length) c26e, .slice a26k (dn.ks.length) c26k, .slice a26s (dn.ss.length) c26s]) _ _ _ _ _ _ _ _ _ _ _ _ _ _ _ _ _ _ _ _ _ _ _ _ _ _ _ _ _ _ _ _ _ _ _ _ _ _ _ _ _ _ _ _ _ _ _ _ _ _ _ _ _ _ _ _ _ _ _ _ _ _ _ _ _ _ _ _ _ _ _ _ _ _ _ _ _ _ _ _ _ _ _ _ _ _ _ _ _ _ _ _ _ _ _ _ _ _ _ _ _ _ _ _ _ _ _ _ _ _ _ _ _ _ _ _ _ _ _ _ _ _ _ _ _ _ _ _ _ _ _ _ _ (f.set i true) a' w'') a w') ?_
          clear hJ hl f a
          intro f0 f1 f2 f3 f4 x118 x119 x120 x121 e4 hB h0 h1 h2 h3 hi
          obtain ⟨hlt, hun, _⟩ := ready_mem hi
          have hlt' : i < 5 := hlt
          clear hlt
          rcases (by omega : i = 0 ∨ i = 1 ∨ i = 2 ∨ i = 3) with rfl | rfl | rfl | rfl
          · have un : f0 = false := hun
            clear hun
            clear hi hne hlt'
            obtain ⟨i0, i1, i2, i3⟩ := (F29KA.out.on hB).four
            refine wpOp_step rfl (fun K hK => ?_)
            have HK : Shut _ := hK
            clear hK
            go_simp
            refine HK.out _ _ ?_
            exact ⟨true, f1, f2, f3, f4, rfl, e4, _, _, _, _, rfl, hB, (fun _ => rfl), h1, h2, h3⟩
          · have un : f1 = false := hun
            clear hun
            have d0 : f0 = true := ready_dep 0 hi (by kernel_rfl)
            have y0 := h0.out d0
            subst y0
            clear hi hne hlt'
            refine wpOp_step rfl (fun K hK => ?_)
            have HK : Shut _ := hK
            clear hK
            go_simp
            refine Calls.mono (of_any dn.leaf _ _ _ w' dn (F29RA.out.below hB)) ?_
            rintro e w1 ⟨rfl, b1⟩
            refine HK.out _ _ ?_
            exact ⟨f0, true, f2, f3, f4, rfl, e4, _, _, _, _, rfl, belCall b1 hB, h0, (fun _ => rfl), h2, h3⟩
          · have un : f2 = false := hun
            clear hun
            clear hi hne hlt'
            obtain ⟨i0, i1, i2, i3⟩ := (F27KC.out.on hB).four
            refine wpOp_step rfl (fun K hK => ?_)
            have HK : Shut _ := hK
            clear hK
            go_simp
            refine HK.out _ _ ?_
            exact ⟨f0, f1, true, f3, f4, rfl, e4, _, _, _, _, rfl, hB, h0, h1, (fun _ => rfl), h3⟩
          · have un : f3 = false := hun
            clear hun
            have d1 : f1 = true := ready_dep 1 hi (by kernel_rfl)
            have y1 := h1.out d1
            subst y1
            have d2 : f2 = true := ready_dep 2 hi (by kernel_rfl)
            have y2 := h2.out d2
            subst y2
            clear hi hne hlt'
            refine wpOp_step rfl (fun K hK => ?_)
            have HK : Shut _ := hK
            clear hK
            go_simp
            refine Calls.mono (nsame_any dn _ _ _ _ _ _ w' (F29RA.out.below hB) (F28RC.out.below hB) dsm) ?_
            rintro e w1 ⟨rfl, b1⟩
            refine HK.out _ _ ?_
            exact ⟨f0, f1, f2, true, f4, rfl, e4, _, _, _, _, rfl, belCall b1 hB, h0, h1, h2, (fun _ => rfl)⟩
        · intro f a w' hl hJ
          refine JBy.elim hJ (C := fun f a w' => 4 ∈ Region.ready .any _ f.toArray → wpOp _ _ _ 4 _ a w') ?_
          clear hJ hl f a
          intro f0 f1 f2 f3 f4 x118 x119 x120 x121 e4 hB h0 h1 h2 h3 hi
          have d3 : f3 = true := ready_dep 3 hi (by kernel_rfl)
          have y3 := h3.out d3
          subst y3
          clear hi
          refine wpOp_step rfl (fun K hK => ?_)
          have HK : Shut _ := hK
          clear hK
          go_simp
          refine HK.out _ _ ?_
          have BQ : Hid (Below w.heap.size w w') := B29.out.trans (hB.mono B29.out.size)
          clear h0 h1 h2 h3 hB
          cases ok with
          | true =>
            have e9 : er = 0 := D3.out.symm
            subst e9
            go_wp2
            go_ret
            exact ⟨rfl, BQ.out⟩
          | false =>
            have e9 : er = 3 := D3.out.symm
            subst e9
            go_wp2
            go_ret
            exact ⟨rfl, BQ.out⟩
        · rintro f a w' ⟨f0, f1, f2, f3, f4, rfl, rfl, _⟩
          rfl
      | true =>
        have C16 : Hid _ := nsize_any ⟨lf, es, ks, ss⟩ _ _ _ w14 F15N.out sm
        rw [HZ.out] at C16
        go_wp2_with fail
        refine Calls.mono C16.out ?_
        rintro e w16 ⟨rfl, hb16⟩
        clear C16
        clear q15P0 q15P1 q15P2 q15P3 q15Pl
        have B17 : Hid (Below w.heap.size w w16) := B15.out.trans (hb16.mono B15.out.size)
        have F17P : Aside (Cl w16 p #[.bool lf, .slice ae es.length ce, .slice ak ks.length ck, .slice az ss.length cz] 26) := Cl.on F15P.out hb16
        clear F15P
        have F17N : Aside (NdR w16 (.slice ae es.length ce) (.slice ak ks.length ck) (.slice az ss.length cz) ⟨lf, es, ks, ss⟩) := F15N.out.below hb16
        clear F15N
        have F17KX : Aside (Cl w16 QX #[.bool lf, .slice ae es.length ce, .slice ak ks.length ck, .slice az ss.length cz] 30) := Cl.on F15KX.out hb16
        clear F15KX
        clear B15
        clear hb16
        obtain ⟨q17P0, q17P1, q17P2, q17P3⟩ := F17P.out.four
        have q17Pl := F17P.out.lt
        by_cases z2 : zs ≤ 240
        ·
          simp only [Bool.true_and, decide_eq_true z2] at fz
          have z2z : (zs : Int) ≤ 240 := by omega
          have z3z : ¬ (240 : Int) < (zs : Int) := by omega
          obtain ⟨y1, y2, y3⟩ := en_yes HR.out (by rw [HZ.out]; exact z2)
          obtain ⟨sb, hsb⟩ : ∃ x : ByteArray, ⟨(bdN ⟨lf, es, ks, ss⟩).toArray⟩ = x := ⟨_, rfl⟩
          rw [hsb] at y2
          have CBd : Hid (∀ X, NdR X (.slice ae es.length ce) (.slice ak ks.length ck) (.slice az ss.length cz) ⟨lf, es, ks, ss⟩ → Calls Try.prog 17 #[.agg #[.bool lf, .slice ae es.length ce, .slice ak ks.length ck, .slice az ss.length cz]] X fun e w' => e = .returned (.string ⟨(bdN ⟨lf, es, ks, ss⟩).toArray⟩) ∧ Below X.heap.size X w') := fun X hX => rbody_any ⟨lf, es, ks, ss⟩ _ _ _ X hX sm HR.out
          have Y1 : Hid _ := y1
          have Y2 : Hid _ := y2
          have Y3 : Hid _ := y3
          have HSb : Hid _ := hsb
          clear y1 y2 y3 hsb z2
          have C18 : Hid _ := fits_any ⟨lf, es, ks, ss⟩ _ _ _ w16 F17N.out sm
          rw [fz] at C18
          go_wp2_with fail
          refine Calls.mono C18.out ?_
          rintro e w18 ⟨rfl, hb18⟩
          clear C18
          clear q17P0 q17P1 q17P2 q17P3 q17Pl
          have B19 : Hid (Below w.heap.size w w18) := B17.out.trans (hb18.mono B17.out.size)
          have F19P : Aside (Cl w18 p #[.bool lf, .slice ae es.length ce, .slice ak ks.length ck, .slice az ss.length cz] 26) := Cl.on F17P.out hb18
          clear F17P
          have F19N : Aside (NdR w18 (.slice ae es.length ce) (.slice ak ks.length ck) (.slice az ss.length cz) ⟨lf, es, ks, ss⟩) := F17N.out.below hb18
          clear F17N
          have F19KX : Aside (Cl w18 QX #[.bool lf, .slice ae es.length ce, .slice ak ks.length ck, .slice az ss.length cz] 30) := Cl.on F17KX.out hb18
          clear F17KX
          clear B17
          clear hb18
          obtain ⟨q19P0, q19P1, q19P2, q19P3⟩ := F19P.out.four
          have q19Pl := F19P.out.lt
          cases lf with
          | true =>
            have kd : kdN ⟨true, es, ks, ss⟩ = 1 := rfl
            rw [kd] at Y1
            clear kd
            have C20 : Hid _ := nencode_any ⟨true, es, ks, ss⟩ _ _ _ w18 F19N.out sm
            rw [Y1.out] at C20
            rw [Y2.out] at C20
            rw [Y3.out] at C20
            go_wp2_with fail
            refine Calls.mono C20.out ?_
            rintro e w20 ⟨rfl, hb20⟩
            clear C20
            clear q19P0 q19P1 q19P2 q19P3 q19Pl
            have B21 : Hid (Below w.heap.size w w20) := B19.out.trans (hb20.mono B19.out.size)
            have F21P : Aside (Cl w20 p #[.bool true, .slice ae es.length ce, .slice ak ks.length ck, .slice az ss.length cz] 26) := Cl.on F19P.out hb20
            clear F19P
            have F21N : Aside (NdR w20 (.slice ae es.length ce) (.slice ak ks.length ck) (.slice az ss.length cz) ⟨true, es, ks, ss⟩) := F19N.out.below hb20
            clear F19N
            have F21KX : Aside (Cl w20 QX #[.bool true, .slice ae es.length ce, .slice ak ks.length ck, .slice az ss.length cz] 30) := Cl.on F19KX.out hb20
            clear F19KX
            clear B19
            clear hb20
            obtain ⟨q21P0, q21P1, q21P2, q21P3⟩ := F21P.out.four
            have q21Pl := F21P.out.lt
            obtain ⟨q21KX0, q21KX1, q21KX2, q21KX3⟩ := F21KX.out.four
            have q21KXl := F21KX.out.lt
            have C22 : Hid _ := CBd.out w20 F21N.out
            rw [HSb.out] at C22
            go_wp2_with fail
            refine Calls.mono C22.out ?_
            rintro e w22 ⟨rfl, hb22⟩
            clear C22
            clear q21P0 q21P1 q21P2 q21P3 q21Pl q21KX0 q21KX1 q21KX2 q21KX3 q21KXl
            have B23 : Hid (Below w.heap.size w w22) := B21.out.trans (hb22.mono B21.out.size)
            have F23P : Aside (Cl w22 p #[.bool true, .slice ae es.length ce, .slice ak ks.length ck, .slice az ss.length cz] 26) := Cl.on F21P.out hb22
            clear F21P
            have F23N : Aside (NdR w22 (.slice ae es.length ce) (.slice ak ks.length ck) (.slice az ss.length cz) ⟨true, es, ks, ss⟩) := F21N.out.below hb22
            clear F21N
            have F23KX : Aside (Cl w22 QX #[.bool true, .slice ae es.length ce, .slice ak ks.length ck, .slice az ss.length cz] 30) := Cl.on F21KX.out hb22
            clear F21KX
            clear B21
            clear hb22
            have C24 : Hid _ := ndecode_is kind body w22 HBm.out dn ok D1.out D2.out er D3.out
            go_wp2_with fail
            refine Calls.mono C24.out ?_
            rintro e v24 ⟨x24e, x24k, x24s, rfl, o24, h24⟩
            clear C24
            obtain ⟨a24e, c24e, rfl, _⟩ := rowShape o24.r.e
            obtain ⟨a24k, c24k, rfl, _⟩ := rowShape o24.r.k
            obtain ⟨a24s, c24s, rfl, _⟩ := rowShape o24.r.s
            have g24 := (belAlloc _ h24 : Below w22.heap.size w22 (v24.alloc (.cells #[.bool dn.leaf, .slice a24e (dn.es.length) c24e, .slice a24k (dn.ks.length) c24k, .slice a24s (dn.ss.length) c24s] 26)))
            have F25KA : Aside (Cl (v24.alloc (.cells #[.bool dn.leaf, .slice a24e (dn.es.length) c24e, .slice a24k (dn.ks.length) c24k, .slice a24s (dn.ss.length) c24s] 26)) v24.heap.size #[.bool dn.leaf, .slice a24e (dn.es.length) c24e, .slice a24k (dn.ks.length) c24k, .slice a24s (dn.ss.length) c24s] 26) := Cl.new _ _ _
            have F26RA : Aside (NdR (v24.alloc (.cells #[.bool dn.leaf, .slice a24e (dn.es.length) c24e, .slice a24k (dn.ks.length) c24k, .slice a24s (dn.ss.length) c24s] 26)) (.slice a24e (dn.es.length) c24e) (.slice a24k (dn.ks.length) c24k) (.slice a24s (dn.ss.length) c24s) dn) := o24.r.below (belAlloc _ (Below.refl _ _))
            have B27 : Hid (Below w.heap.size w (v24.alloc (.cells #[.bool dn.leaf, .slice a24e (dn.es.length) c24e, .slice a24k (dn.ks.length) c24k, .slice a24s (dn.ss.length) c24s] 26))) := B23.out.trans (g24.mono B23.out.size)
            clear B23
            clear g24 h24 o24
            go_upto_region 25 with fail
            generalize (v24.alloc (.cells #[.bool dn.leaf, .slice a24e (dn.es.length) c24e, .slice a24k (dn.ks.length) c24k, .slice a24s (dn.ss.length) c24s] 26)) = u24 at *
            generalize v24.heap.size = QA at *
            have C28 : Hid _ := rndecode_is kind body u24 HBm.out dn ok D1.out D2.out
            go_wp2_with fail
            refine Calls.mono C28.out ?_
            rintro e v28 ⟨x28e, x28k, x28s, rfl, o28, h28⟩
            clear C28
            obtain ⟨a28e, c28e, rfl, _⟩ := rowShape o28.r.e
            obtain ⟨a28k, c28k, rfl, _⟩ := rowShape o28.r.k
            obtain ⟨a28s, c28s, rfl, _⟩ := rowShape o28.r.s
            have g28 := (belAlloc _ h28 : Below u24.heap.size u24 (v28.alloc (.cells #[.bool dn.leaf, .slice a28e (dn.es.length) c28e, .slice a28k (dn.ks.length) c28k, .slice a28s (dn.ss.length) c28s] 30)))
            have F29KC : Aside (Cl (v28.alloc (.cells #[.bool dn.leaf, .slice a28e (dn.es.length) c28e, .slice a28k (dn.ks.length) c28k, .slice a28s (dn.ss.length) c28s] 30)) v28.heap.size #[.bool dn.leaf, .slice a28e (dn.es.length) c28e, .slice a28k (dn.ks.length) c28k, .slice a28s (dn.ss.length) c28s] 30) := Cl.new _ _ _
            have F30RC : Aside (NdR (v28.alloc (.cells #[.bool dn.leaf, .slice a28e (dn.es.length) c28e, .slice a28k (dn.ks.length) c28k, .slice a28s (dn.ss.length) c28s] 30)) (.slice a28e (dn.es.length) c28e) (.slice a28k (dn.ks.length) c28k) (.slice a28s (dn.ss.length) c28s) dn) := o28.r.below (belAlloc _ (Below.refl _ _))
            have B31 : Hid (Below w.heap.size w (v28.alloc (.cells #[.bool dn.leaf, .slice a28e (dn.es.length) c28e, .slice a28k (dn.ks.length) c28k, .slice a28s (dn.ss.length) c28s] 30))) := B27.out.trans (g28.mono B27.out.size)
            have F31KA : Aside (Cl (v28.alloc (.cells #[.bool dn.leaf, .slice a28e (dn.es.length) c28e, .slice a28k (dn.ks.length) c28k, .slice a28s (dn.ss.length) c28s] 30)) QA #[.bool dn.leaf, .slice a24e (dn.es.length) c24e, .slice a24k (dn.ks.length) c24k, .slice a24s (dn.ss.length) c24s] 26) := Cl.on F25KA.out g28
            clear F25KA
            have F31RA : Aside (NdR (v28.alloc (.cells #[.bool dn.leaf, .slice a28e (dn.es.length) c28e, .slice a28k (dn.ks.length) c28k, .slice a28s (dn.ss.length) c28s] 30)) (.slice a24e (dn.es.length) c24e) (.slice a24k (dn.ks.length) c24k) (.slice a24s (dn.ss.length) c24s) dn) := F26RA.out.below g28
            clear F26RA
            clear B27
            clear g28 h28 o28
            go_upto_region 26 with fail
            generalize (v28.alloc (.cells #[.bool dn.leaf, .slice a28e (dn.es.length) c28e, .slice a28k (dn.ks.length) c28k, .slice a28s (dn.ss.length) c28s] 30)) = u28 at *
            generalize v28.heap.size = QC at *
            refine region_inv 4 (JBy u28 QA QC (.agg #[.bool dn.leaf, .slice a24e (dn.es.length) c24e, .slice a24k (dn.ks.length) c24k, .slice a24s (dn.ss.length) c24s]) (.agg #[.bool dn.leaf, .slice a28e (dn.es.length) c28e, .slice a28k (dn.ks.length) c28k, .slice a28s (dn.ss.length) c28s]) _ _ _ _ _ _ _ _ _ _ _ _ _ _ _ _ _ _ _ _ _ _ _ _ _ _ _ _ _ _ _ _ _ _ _ _ _ _ _ _ _ _ _ _ _ _ _ _ _ _ _ _ _ _ _ _ _ _ _ _ _ _ _ _ _ _ _ _ _ _ _ _ _ _ _ _ _ _ _ _ _ _ _ _ _ _ _ _ _ _ _ _ _ _ _ _ _ _ _ _ _ _ _ _ _ _ _ _ _ _ _ _ _ _ _ _ _ _ _ _ _ _ _ _ _ _ _ _ _ _ _ _ _) (by kernel_rfl) (by kernel_rfl) (by kernel_rfl) ⟨false, false, false, false, false, rfl, rfl, _, _, _, _, rfl, (Below.refl _ u28).drew, (fun h => by cases h), (fun h => by cases h), (fun h => by cases h), (fun h => by cases h)⟩ ?_ ?_ ?_
            · intro i f a w' hne hl hJ
              refine JBy.elim hJ (C := fun f a w' => i ∈ Region.ready .any _ f.toArray → wpOp _ _ _ i (fun a' w'' => JBy u28 QA QC (.agg #[.bool dn.leaf, .slice a24e (dn.es.length) c24e, .slice a24k (dn.ks.length) c24k, .slice a24s (dn.ss.length) c24s]) (.agg #[.bool dn.leaf, .slice a28e (dn.es.length) c28e, .slice a28k (dn.ks.length) c28k, .slice a28s (dn.ss.length) c28s]) _ _ _ _ _ _ _ _ _ _ _ _ _ _ _ _ _ _ _ _ _ _ _ _ _ _ _ _ _ _ _ _ _ _ _ _ _ _ _ _ _ _ _ _ _ _ _ _ _ _ _ _ _ _ _ _ _ _ _ _ _ _ _ _ _ _ _ _ _ _ _ _ _ _ _ _ _ _ _ _ _ _ _ _ _ _ _ _ _ _ _ _ _ _ _ _ _ _ _ _ _ _ _ _ _ _ _ _ _ _ _ _ _ _ _ _ _ _ _ _ _ _ _ _ _ _ _ _ _ _ _ _ _ (f.set i true) a' w'') a w') ?_
              clear hJ hl f a
              intro f0 f1 f2 f3 f4 x118 x119 x120 x121 e4 hB h0 h1 h2 h3 hi
              obtain ⟨hlt, hun, _⟩ := ready_mem hi
              have hlt' : i < 5 := hlt
              clear hlt
              rcases (by omega : i = 0 ∨ i = 1 ∨ i = 2 ∨ i = 3) with rfl | rfl | rfl | rfl
              · have un : f0 = false := hun
                clear hun
                clear hi hne hlt'
                obtain ⟨i0, i1, i2, i3⟩ := (F31KA.out.on hB).four
                refine wpOp_step rfl (fun K hK => ?_)
                have HK : Shut _ := hK
                clear hK
                go_simp
                refine HK.out _ _ ?_
                exact ⟨true, f1, f2, f3, f4, rfl, e4, _, _, _, _, rfl, hB, (fun _ => rfl), h1, h2, h3⟩
              · have un : f1 = false := hun
                clear hun
                have d0 : f0 = true := ready_dep 0 hi (by kernel_rfl)
                have y0 := h0.out d0
                subst y0
                clear hi hne hlt'
                refine wpOp_step rfl (fun K hK => ?_)
                have HK : Shut _ := hK
                clear hK
                go_simp
                refine Calls.mono (of_any dn.leaf _ _ _ w' dn (F31RA.out.below hB)) ?_
                rintro e w1 ⟨rfl, b1⟩
                refine HK.out _ _ ?_
                exact ⟨f0, true, f2, f3, f4, rfl, e4, _, _, _, _, rfl, belCall b1 hB, h0, (fun _ => rfl), h2, h3⟩
              · have un : f2 = false := hun
                clear hun
                clear hi hne hlt'
                obtain ⟨i0, i1, i2, i3⟩ := (F29KC.out.on hB).four
                refine wpOp_step rfl (fun K hK => ?_)
                have HK : Shut _ := hK
                clear hK
                go_simp
                refine HK.out _ _ ?_
                exact ⟨f0, f1, true, f3, f4, rfl, e4, _, _, _, _, rfl, hB, h0, h1, (fun _ => rfl), h3⟩
              · have un : f3 = false := hun
                clear hun
                have d1 : f1 = true := ready_dep 1 hi (by kernel_rfl)
                have y1 := h1.out d1
                subst y1
                have d2 : f2 = true := ready_dep 2 hi (by kernel_rfl)
                have y2 := h2.out d2
                subst y2
                clear hi hne hlt'
                refine wpOp_step rfl (fun K hK => ?_)
                have HK : Shut _ := hK
                clear hK
                go_simp
                refine Calls.mono (nsame_any dn _ _ _ _ _ _ w' (F31RA.out.below hB) (F30RC.out.below hB) dsm) ?_
                rintro e w1 ⟨rfl, b1⟩
                refine HK.out _ _ ?_
                exact ⟨f0, f1, f2, true, f4, rfl, e4, _, _, _, _, rfl, belCall b1 hB, h0, h1, h2, (fun _ => rfl)⟩
            · intro f a w' hl hJ
              refine JBy.elim hJ (C := fun f a w' => 4 ∈ Region.ready .any _ f.toArray → wpOp _ _ _ 4 _ a w') ?_
              clear hJ hl f a
              intro f0 f1 f2 f3 f4 x118 x119 x120 x121 e4 hB h0 h1 h2 h3 hi
              have d3 : f3 = true := ready_dep 3 hi (by kernel_rfl)
              have y3 := h3.out d3
              subst y3
              clear hi
              refine wpOp_step rfl (fun K hK => ?_)
              have HK : Shut _ := hK
              clear hK
              go_simp
              refine HK.out _ _ ?_
              have BQ : Hid (Below w.heap.size w w') := B31.out.trans (hB.mono B31.out.size)
              clear h0 h1 h2 h3 hB
              cases ok with
              | true =>
                have e9 : er = 0 := D3.out.symm
                subst e9
                go_wp2
                go_ret
                exact ⟨rfl, BQ.out⟩
              | false =>
                have e9 : er = 3 := D3.out.symm
                subst e9
                go_wp2
                go_ret
                exact ⟨rfl, BQ.out⟩
            · rintro f a w' ⟨f0, f1, f2, f3, f4, rfl, rfl, _⟩
              rfl
          | false =>
            have kd : kdN ⟨false, es, ks, ss⟩ = 2 := rfl
            rw [kd] at Y1
            clear kd
            have C20 : Hid _ := nencode_any ⟨false, es, ks, ss⟩ _ _ _ w18 F19N.out sm
            rw [Y1.out] at C20
            rw [Y2.out] at C20
            rw [Y3.out] at C20
            go_wp2_with fail
            refine Calls.mono C20.out ?_
            rintro e w20 ⟨rfl, hb20⟩
            clear C20
            clear q19P0 q19P1 q19P2 q19P3 q19Pl
            have B21 : Hid (Below w.heap.size w w20) := B19.out.trans (hb20.mono B19.out.size)
            have F21P : Aside (Cl w20 p #[.bool false, .slice ae es.length ce, .slice ak ks.length ck, .slice az ss.length cz] 26) := Cl.on F19P.out hb20
            clear F19P
            have F21N : Aside (NdR w20 (.slice ae es.length ce) (.slice ak ks.length ck) (.slice az ss.length cz) ⟨false, es, ks, ss⟩) := F19N.out.below hb20
            clear F19N
            have F21KX : Aside (Cl w20 QX #[.bool false, .slice ae es.length ce, .slice ak ks.length ck, .slice az ss.length cz] 30) := Cl.on F19KX.out hb20
            clear F19KX
            clear B19
            clear hb20
            obtain ⟨q21P0, q21P1, q21P2, q21P3⟩ := F21P.out.four
            have q21Pl := F21P.out.lt
            obtain ⟨q21KX0, q21KX1, q21KX2, q21KX3⟩ := F21KX.out.four
            have q21KXl := F21KX.out.lt
            have C22 : Hid _ := CBd.out w20 F21N.out
            rw [HSb.out] at C22
            go_wp2_with fail
            refine Calls.mono C22.out ?_
            rintro e w22 ⟨rfl, hb22⟩
            clear C22
            clear q21P0 q21P1 q21P2 q21P3 q21Pl q21KX0 q21KX1 q21KX2 q21KX3 q21KXl
            have B23 : Hid (Below w.heap.size w w22) := B21.out.trans (hb22.mono B21.out.size)
            have F23P : Aside (Cl w22 p #[.bool false, .slice ae es.length ce, .slice ak ks.length ck, .slice az ss.length cz] 26) := Cl.on F21P.out hb22
            clear F21P
            have F23N : Aside (NdR w22 (.slice ae es.length ce) (.slice ak ks.length ck) (.slice az ss.length cz) ⟨false, es, ks, ss⟩) := F21N.out.below hb22
            clear F21N
            have F23KX : Aside (Cl w22 QX #[.bool false, .slice ae es.length ce, .slice ak ks.length ck, .slice az ss.length cz] 30) := Cl.on F21KX.out hb22
            clear F21KX
            clear B21
            clear hb22
            have C24 : Hid _ := ndecode_is kind body w22 HBm.out dn ok D1.out D2.out er D3.out
            go_wp2_with fail
            refine Calls.mono C24.out ?_
            rintro e v24 ⟨x24e, x24k, x24s, rfl, o24, h24⟩
            clear C24
            obtain ⟨a24e, c24e, rfl, _⟩ := rowShape o24.r.e
            obtain ⟨a24k, c24k, rfl, _⟩ := rowShape o24.r.k
            obtain ⟨a24s, c24s, rfl, _⟩ := rowShape o24.r.s
            have g24 := (belAlloc _ h24 : Below w22.heap.size w22 (v24.alloc (.cells #[.bool dn.leaf, .slice a24e (dn.es.length) c24e, .slice a24k (dn.ks.length) c24k, .slice a24s (dn.ss.length) c24s] 26)))
            have F25KA : Aside (Cl (v24.alloc (.cells #[.bool dn.leaf, .slice a24e (dn.es.length) c24e, .slice a24k (dn.ks.length) c24k, .slice a24s (dn.ss.length) c24s] 26)) v24.heap.size #[.bool dn.leaf, .slice a24e (dn.es.length) c24e, .slice a24k (dn.ks.length) c24k, .slice a24s (dn.ss.length) c24s] 26) := Cl.new _ _ _
            have F26RA : Aside (NdR (v24.alloc (.cells #[.bool dn.leaf, .slice a24e (dn.es.length) c24e, .slice a24k (dn.ks.length) c24k, .slice a24s (dn.ss.length) c24s] 26)) (.slice a24e (dn.es.length) c24e) (.slice a24k (dn.ks.length) c24k) (.slice a24s (dn.ss.length) c24s) dn) := o24.r.below (belAlloc _ (Below.refl _ _))
            have B27 : Hid (Below w.heap.size w (v24.alloc (.cells #[.bool dn.leaf, .slice a24e (dn.es.length) c24e, .slice a24k (dn.ks.length) c24k, .slice a24s (dn.ss.length) c24s] 26))) := B23.out.trans (g24.mono B23.out.size)
            clear B23
            clear g24 h24 o24
            go_upto_region 25 with fail
            generalize (v24.alloc (.cells #[.bool dn.leaf, .slice a24e (dn.es.length) c24e, .slice a24k (dn.ks.length) c24k, .slice a24s (dn.ss.length) c24s] 26)) = u24 at *
            generalize v24.heap.size = QA at *
            have C28 : Hid _ := rndecode_is kind body u24 HBm.out dn ok D1.out D2.out
            go_wp2_with fail
            refine Calls.mono C28.out ?_
            rintro e v28 ⟨x28e, x28k, x28s, rfl, o28, h28⟩
            clear C28
            obtain ⟨a28e, c28e, rfl, _⟩ := rowShape o28.r.e
            obtain ⟨a28k, c28k, rfl, _⟩ := rowShape o28.r.k
            obtain ⟨a28s, c28s, rfl, _⟩ := rowShape o28.r.s
            have g28 := (belAlloc _ h28 : Below u24.heap.size u24 (v28.alloc (.cells #[.bool dn.leaf, .slice a28e (dn.es.length) c28e, .slice a28k (dn.ks.length) c28k, .slice a28s (dn.ss.length) c28s] 30)))
            have F29KC : Aside (Cl (v28.alloc (.cells #[.bool dn.leaf, .slice a28e (dn.es.length) c28e, .slice a28k (dn.ks.length) c28k, .slice a28s (dn.ss.length) c28s] 30)) v28.heap.size #[.bool dn.leaf, .slice a28e (dn.es.length) c28e, .slice a28k (dn.ks.length) c28k, .slice a28s (dn.ss.length) c28s] 30) := Cl.new _ _ _
            have F30RC : Aside (NdR (v28.alloc (.cells #[.bool dn.leaf, .slice a28e (dn.es.length) c28e, .slice a28k (dn.ks.length) c28k, .slice a28s (dn.ss.length) c28s] 30)) (.slice a28e (dn.es.length) c28e) (.slice a28k (dn.ks.length) c28k) (.slice a28s (dn.ss.length) c28s) dn) := o28.r.below (belAlloc _ (Below.refl _ _))
            have B31 : Hid (Below w.heap.size w (v28.alloc (.cells #[.bool dn.leaf, .slice a28e (dn.es.length) c28e, .slice a28k (dn.ks.length) c28k, .slice a28s (dn.ss.length) c28s] 30))) := B27.out.trans (g28.mono B27.out.size)
            have F31KA : Aside (Cl (v28.alloc (.cells #[.bool dn.leaf, .slice a28e (dn.es.length) c28e, .slice a28k (dn.ks.length) c28k, .slice a28s (dn.ss.length) c28s] 30)) QA #[.bool dn.leaf, .slice a24e (dn.es.length) c24e, .slice a24k (dn.ks.length) c24k, .slice a24s (dn.ss.length) c24s] 26) := Cl.on F25KA.out g28
            clear F25KA
            have F31RA : Aside (NdR (v28.alloc (.cells #[.bool dn.leaf, .slice a28e (dn.es.length) c28e, .slice a28k (dn.ks.length) c28k, .slice a28s (dn.ss.length) c28s] 30)) (.slice a24e (dn.es.length) c24e) (.slice a24k (dn.ks.length) c24k) (.slice a24s (dn.ss.length) c24s) dn) := F26RA.out.below g28
            clear F26RA
            clear B27
            clear g28 h28 o28
            go_upto_region 26 with fail
            generalize (v28.alloc (.cells #[.bool dn.leaf, .slice a28e (dn.es.length) c28e, .slice a28k (dn.ks.length) c28k, .slice a28s (dn.ss.length) c28s] 30)) = u28 at *
            generalize v28.heap.size = QC at *
            refine region_inv 4 (JBy u28 QA QC (.agg #[.bool dn.leaf, .slice a24e (dn.es.length) c24e, .slice a24k (dn.ks.length) c24k, .slice a24s (dn.ss.length) c24s]) (.agg #[.bool dn.leaf, .slice a28e (dn.es.length) c28e, .slice a28k (dn.ks.length) c28k, .slice a28s (dn.ss.length) c28s]) _ _ _ _ _ _ _ _ _ _ _ _ _ _ _ _ _ _ _ _ _ _ _ _ _ _ _ _ _ _ _ _ _ _ _ _ _ _ _ _ _ _ _ _ _ _ _ _ _ _ _ _ _ _ _ _ _ _ _ _ _ _ _ _ _ _ _ _ _ _ _ _ _ _ _ _ _ _ _ _ _ _ _ _ _ _ _ _ _ _ _ _ _ _ _ _ _ _ _ _ _ _ _ _ _ _ _ _ _ _ _ _ _ _ _ _ _ _ _ _ _ _ _ _ _ _ _ _ _ _ _ _ _) (by kernel_rfl) (by kernel_rfl) (by kernel_rfl) ⟨false, false, false, false, false, rfl, rfl, _, _, _, _, rfl, (Below.refl _ u28).drew, (fun h => by cases h), (fun h => by cases h), (fun h => by cases h), (fun h => by cases h)⟩ ?_ ?_ ?_
            · intro i f a w' hne hl hJ
              refine JBy.elim hJ (C := fun f a w' => i ∈ Region.ready .any _ f.toArray → wpOp _ _ _ i (fun a' w'' => JBy u28 QA QC (.agg #[.bool dn.leaf, .slice a24e (dn.es.length) c24e, .slice a24k (dn.ks.length) c24k, .slice a24s (dn.ss.length) c24s]) (.agg #[.bool dn.leaf, .slice a28e (dn.es.length) c28e, .slice a28k (dn.ks.length) c28k, .slice a28s (dn.ss.length) c28s]) _ _ _ _ _ _ _ _ _ _ _ _ _ _ _ _ _ _ _ _ _ _ _ _ _ _ _ _ _ _ _ _ _ _ _ _ _ _ _ _ _ _ _ _ _ _ _ _ _ _ _ _ _ _ _ _ _ _ _ _ _ _ _ _ _ _ _ _ _ _ _ _ _ _ _ _ _ _ _ _ _ _ _ _ _ _ _ _ _ _ _ _ _ _ _ _ _ _ _ _ _ _ _ _ _ _ _ _ _ _ _ _ _ _ _ _ _ _ _ _ _ _ _ _ _ _ _ _ _ _ _ _ _ (f.set i true) a' w'') a w') ?_
              clear hJ hl f a
              intro f0 f1 f2 f3 f4 x118 x119 x120 x121 e4 hB h0 h1 h2 h3 hi
              obtain ⟨hlt, hun, _⟩ := ready_mem hi
              have hlt' : i < 5 := hlt
              clear hlt
              rcases (by omega : i = 0 ∨ i = 1 ∨ i = 2 ∨ i = 3) with rfl | rfl | rfl | rfl
              · have un : f0 = false := hun
                clear hun
                clear hi hne hlt'
                obtain ⟨i0, i1, i2, i3⟩ := (F31KA.out.on hB).four
                refine wpOp_step rfl (fun K hK => ?_)
                have HK : Shut _ := hK
                clear hK
                go_simp
                refine HK.out _ _ ?_
                exact ⟨true, f1, f2, f3, f4, rfl, e4, _, _, _, _, rfl, hB, (fun _ => rfl), h1, h2, h3⟩
              · have un : f1 = false := hun
                clear hun
                have d0 : f0 = true := ready_dep 0 hi (by kernel_rfl)
                have y0 := h0.out d0
                subst y0
                clear hi hne hlt'
                refine wpOp_step rfl (fun K hK => ?_)
                have HK : Shut _ := hK
                clear hK
                go_simp
                refine Calls.mono (of_any dn.leaf _ _ _ w' dn (F31RA.out.below hB)) ?_
                rintro e w1 ⟨rfl, b1⟩
                refine HK.out _ _ ?_
                exact ⟨f0, true, f2, f3, f4, rfl, e4, _, _, _, _, rfl, belCall b1 hB, h0, (fun _ => rfl), h2, h3⟩
              · have un : f2 = false := hun
                clear hun
                clear hi hne hlt'
                obtain ⟨i0, i1, i2, i3⟩ := (F29KC.out.on hB).four
                refine wpOp_step rfl (fun K hK => ?_)
                have HK : Shut _ := hK
                clear hK
                go_simp
                refine HK.out _ _ ?_
                exact ⟨f0, f1, true, f3, f4, rfl, e4, _, _, _, _, rfl, hB, h0, h1, (fun _ => rfl), h3⟩
              · have un : f3 = false := hun
                clear hun
                have d1 : f1 = true := ready_dep 1 hi (by kernel_rfl)
                have y1 := h1.out d1
                subst y1
                have d2 : f2 = true := ready_dep 2 hi (by kernel_rfl)
                have y2 := h2.out d2
                subst y2
                clear hi hne hlt'
                refine wpOp_step rfl (fun K hK => ?_)
                have HK : Shut _ := hK
                clear hK
                go_simp
                refine Calls.mono (nsame_any dn _ _ _ _ _ _ w' (F31RA.out.below hB) (F30RC.out.below hB) dsm) ?_
                rintro e w1 ⟨rfl, b1⟩
                refine HK.out _ _ ?_
                exact ⟨f0, f1, f2, true, f4, rfl, e4, _, _, _, _, rfl, belCall b1 hB, h0, h1, h2, (fun _ => rfl)⟩
            · intro f a w' hl hJ
              refine JBy.elim hJ (C := fun f a w' => 4 ∈ Region.ready .any _ f.toArray → wpOp _ _ _ 4 _ a w') ?_
              clear hJ hl f a
              intro f0 f1 f2 f3 f4 x118 x119 x120 x121 e4 hB h0 h1 h2 h3 hi
              have d3 : f3 = true := ready_dep 3 hi (by kernel_rfl)
              have y3 := h3.out d3
              subst y3
              clear hi
              refine wpOp_step rfl (fun K hK => ?_)
              have HK : Shut _ := hK
              clear hK
              go_simp
              refine HK.out _ _ ?_
              have BQ : Hid (Below w.heap.size w w') := B31.out.trans (hB.mono B31.out.size)
              clear h0 h1 h2 h3 hB
              cases ok with
              | true =>
                have e9 : er = 0 := D3.out.symm
                subst e9
                go_wp2
                go_ret
                exact ⟨rfl, BQ.out⟩
              | false =>
                have e9 : er = 3 := D3.out.symm
                subst e9
                go_wp2
                go_ret
                exact ⟨rfl, BQ.out⟩
            · rintro f a w' ⟨f0, f1, f2, f3, f4, rfl, rfl, _⟩
              rfl
        ·
          simp only [Bool.true_and, decide_eq_false z2] at fz
          have z2z : ¬ (zs : Int) ≤ 240 := by omega
          have z3z : (240 : Int) < (zs : Int) := by omega
          obtain ⟨y1, y2, y3⟩ := en_long HR.out (by rw [HZ.out]; exact z2)
          have Y1 : Hid _ := y1
          have Y2 : Hid _ := y2
          have Y3 : Hid _ := y3
          clear y1 y2 y3 z2
          have C18 : Hid _ := fits_any ⟨lf, es, ks, ss⟩ _ _ _ w16 F17N.out sm
          rw [fz] at C18
          go_wp2_with fail
          refine Calls.mono C18.out ?_
          rintro e w18 ⟨rfl, hb18⟩
          clear C18
          clear q17P0 q17P1 q17P2 q17P3 q17Pl
          have B19 : Hid (Below w.heap.size w w18) := B17.out.trans (hb18.mono B17.out.size)
          have F19P : Aside (Cl w18 p #[.bool lf, .slice ae es.length ce, .slice ak ks.length ck, .slice az ss.length cz] 26) := Cl.on F17P.out hb18
          clear F17P
          have F19N : Aside (NdR w18 (.slice ae es.length ce) (.slice ak ks.length ck) (.slice az ss.length cz) ⟨lf, es, ks, ss⟩) := F17N.out.below hb18
          clear F17N
          have F19KX : Aside (Cl w18 QX #[.bool lf, .slice ae es.length ce, .slice ak ks.length ck, .slice az ss.length cz] 30) := Cl.on F17KX.out hb18
          clear F17KX
          clear B17
          clear hb18
          obtain ⟨q19P0, q19P1, q19P2, q19P3⟩ := F19P.out.four
          have q19Pl := F19P.out.lt
          have C20 : Hid _ := nencode_any ⟨lf, es, ks, ss⟩ _ _ _ w18 F19N.out sm
          rw [Y1.out] at C20
          rw [Y2.out] at C20
          rw [Y3.out] at C20
          go_wp2_with fail
          refine Calls.mono C20.out ?_
          rintro e w20 ⟨rfl, hb20⟩
          clear C20
          clear q19P0 q19P1 q19P2 q19P3 q19Pl
          have B21 : Hid (Below w.heap.size w w20) := B19.out.trans (hb20.mono B19.out.size)
          have F21P : Aside (Cl w20 p #[.bool lf, .slice ae es.length ce, .slice ak ks.length ck, .slice az ss.length cz] 26) := Cl.on F19P.out hb20
          clear F19P
          have F21N : Aside (NdR w20 (.slice ae es.length ce) (.slice ak ks.length ck) (.slice az ss.length cz) ⟨lf, es, ks, ss⟩) := F19N.out.below hb20
          clear F19N
          have F21KX : Aside (Cl w20 QX #[.bool lf, .slice ae es.length ce, .slice ak ks.length ck, .slice az ss.length cz] 30) := Cl.on F19KX.out hb20
          clear F19KX
          clear B19
          clear hb20
          have C22 : Hid _ := ndecode_is kind body w20 HBm.out dn ok D1.out D2.out er D3.out
          go_wp2_with fail
          refine Calls.mono C22.out ?_
          rintro e v22 ⟨x22e, x22k, x22s, rfl, o22, h22⟩
          clear C22
          obtain ⟨a22e, c22e, rfl, _⟩ := rowShape o22.r.e
          obtain ⟨a22k, c22k, rfl, _⟩ := rowShape o22.r.k
          obtain ⟨a22s, c22s, rfl, _⟩ := rowShape o22.r.s
          have g22 := (belAlloc _ h22 : Below w20.heap.size w20 (v22.alloc (.cells #[.bool dn.leaf, .slice a22e (dn.es.length) c22e, .slice a22k (dn.ks.length) c22k, .slice a22s (dn.ss.length) c22s] 26)))
          have F23KA : Aside (Cl (v22.alloc (.cells #[.bool dn.leaf, .slice a22e (dn.es.length) c22e, .slice a22k (dn.ks.length) c22k, .slice a22s (dn.ss.length) c22s] 26)) v22.heap.size #[.bool dn.leaf, .slice a22e (dn.es.length) c22e, .slice a22k (dn.ks.length) c22k, .slice a22s (dn.ss.length) c22s] 26) := Cl.new _ _ _
          have F24RA : Aside (NdR (v22.alloc (.cells #[.bool dn.leaf, .slice a22e (dn.es.length) c22e, .slice a22k (dn.ks.length) c22k, .slice a22s (dn.ss.length) c22s] 26)) (.slice a22e (dn.es.length) c22e) (.slice a22k (dn.ks.length) c22k) (.slice a22s (dn.ss.length) c22s) dn) := o22.r.below (belAlloc _ (Below.refl _ _))
          have B25 : Hid (Below w.heap.size w (v22.alloc (.cells #[.bool dn.leaf, .slice a22e (dn.es.length) c22e, .slice a22k (dn.ks.length) c22k, .slice a22s (dn.ss.length) c22s] 26))) := B21.out.trans (g22.mono B21.out.size)
          clear B21
          clear g22 h22 o22
          go_upto_region 25 with fail
          generalize (v22.alloc (.cells #[.bool dn.leaf, .slice a22e (dn.es.length) c22e, .slice a22k (dn.ks.length) c22k, .slice a22s (dn.ss.length) c22s] 26)) = u22 at *
          generalize v22.heap.size = QA at *
          have C26 : Hid _ := rndecode_is kind body u22 HBm.out dn ok D1.out D2.out
          go_wp2_with fail
          refine Calls.mono C26.out ?_
          rintro e v26 ⟨x26e, x26k, x26s, rfl, o26, h26⟩
          clear C26
          obtain ⟨a26e, c26e, rfl, _⟩ := rowShape o26.r.e
          obtain ⟨a26k, c26k, rfl, _⟩ := rowShape o26.r.k
          obtain ⟨a26s, c26s, rfl, _⟩ := rowShape o26.r.s
          have g26 := (belAlloc _ h26 : Below u22.heap.size u22 (v26.alloc (.cells #[.bool dn.leaf, .slice a26e (dn.es.length) c26e, .slice a26k (dn.ks.length) c26k, .slice a26s (dn.ss.length) c26s] 30)))
          have F27KC : Aside (Cl (v26.alloc (.cells #[.bool dn.leaf, .slice a26e (dn.es.length) c26e, .slice a26k (dn.ks.length) c26k, .slice a26s (dn.ss.length) c26s] 30)) v26.heap.size #[.bool dn.leaf, .slice a26e (dn.es.length) c26e, .slice a26k (dn.ks.length) c26k, .slice a26s (dn.ss.length) c26s] 30) := Cl.new _ _ _
          have F28RC : Aside (NdR (v26.alloc (.cells #[.bool dn.leaf, .slice a26e (dn.es.length) c26e, .slice a26k (dn.ks.length) c26k, .slice a26s (dn.ss.length) c26s] 30)) (.slice a26e (dn.es.length) c26e) (.slice a26k (dn.ks.length) c26k) (.slice a26s (dn.ss.length) c26s) dn) := o26.r.below (belAlloc _ (Below.refl _ _))
          have B29 : Hid (Below w.heap.size w (v26.alloc (.cells #[.bool dn.leaf, .slice a26e (dn.es.length) c26e, .slice a26k (dn.ks.length) c26k, .slice a26s (dn.ss.length) c26s] 30))) := B25.out.trans (g26.mono B25.out.size)
          have F29KA : Aside (Cl (v26.alloc (.cells #[.bool dn.leaf, .slice a26e (dn.es.length) c26e, .slice a26k (dn.ks.length) c26k, .slice a26s (dn.ss.length) c26s] 30)) QA #[.bool dn.leaf, .slice a22e (dn.es.length) c22e, .slice a22k (dn.ks.length) c22k, .slice a22s (dn.ss.length) c22s] 26) := Cl.on F23KA.out g26
          clear F23KA
          have F29RA : Aside (NdR (v26.alloc (.cells #[.bool dn.leaf, .slice a26e (dn.es.length) c26e, .slice a26k (dn.ks.length) c26k, .slice a26s (dn.ss.length) c26s] 30)) (.slice a22e (dn.es.length) c22e) (.slice a22k (dn.ks.length) c22k) (.slice a22s (dn.ss.length) c22s) dn) := F24RA.out.below g26
          clear F24RA
          clear B25
          clear g26 h26 o26
          go_upto_region 26 with fail
          generalize (v26.alloc (.cells #[.bool dn.leaf, .slice a26e (dn.es.length) c26e, .slice a26k (dn.ks.length) c26k, .slice a26s (dn.ss.length) c26s] 30)) = u26 at *
          generalize v26.heap.size = QC at *
          refine region_inv 4 (JBy u26 QA QC (.agg #[.bool dn.leaf, .slice a22e (dn.es.length) c22e, .slice a22k (dn.ks.length) c22k, .slice a22s (dn.ss.length) c22s]) (.agg #[.bool dn.leaf, .slice a26e (dn.es.length) c26e, .slice a26k (dn.ks.length) c26k, .slice a26s (dn.ss.length) c26s]) _ _ _ _ _ _ _ _ _ _ _ _ _ _ _ _ _ _ _ _ _ _ _ _ _ _ _ _ _ _ _ _ _ _ _ _ _ _ _ _ _ _ _ _ _ _ _ _ _ _ _ _ _ _ _ _ _ _ _ _ _ _ _ _ _ _ _ _ _ _ _ _ _ _ _ _ _ _ _ _ _ _ _ _ _ _ _ _ _ _ _ _ _ _ _ _ _ _ _ _ _ _ _ _ _ _ _ _ _ _ _ _ _ _ _ _ _ _ _ _ _ _ _ _ _ _ _ _ _ _ _ _ _) (by kernel_rfl) (by kernel_rfl) (by kernel_rfl) ⟨false, false, false, false, false, rfl, rfl, _, _, _, _, rfl, (Below.refl _ u26).drew, (fun h => by cases h), (fun h => by cases h), (fun h => by cases h), (fun h => by cases h)⟩ ?_ ?_ ?_
          · intro i f a w' hne hl hJ
            refine JBy.elim hJ (C := fun f a w' => i ∈ Region.ready .any _ f.toArray → wpOp _ _ _ i (fun a' w'' => JBy u26 QA QC (.agg #[.bool dn.leaf, .slice a22e (dn.es.length) c22e, .slice a22k (dn.ks.length) c22k, .slice a22s (dn.ss.length) c22s]) (.agg #[.bool dn.leaf, .slice a26e (dn.es.length) c26e, .slice a26k (dn.ks.length) c26k, .slice a26s (dn.ss.length) c26s]) _ _ _ _ _ _ _ _ _ _ _ _ _ _ _ _ _ _ _ _ _ _ _ _ _ _ _ _ _ _ _ _ _ _ _ _ _ _ _ _ _ _ _ _ _ _ _ _ _ _ _ _ _ _ _ _ _ _ _ _ _ _ _ _ _ _ _ _ _ _ _ _ _ _ _ _ _ _ _ _ _ _ _ _ _ _ _ _ _ _ _ _ _ _ _ _ _ _ _ _ _ _ _ _ _ _ _ _ _ _ _ _ _ _ _ _ _ _ _ _ _ _ _ _ _ _ _ _ _ _ _ _ _ (f.set i true) a' w'') a w') ?_
            clear hJ hl f a
            intro f0 f1 f2 f3 f4 x118 x119 x120 x121 e4 hB h0 h1 h2 h3 hi
            obtain ⟨hlt, hun, _⟩ := ready_mem hi
            have hlt' : i < 5 := hlt
            clear hlt
            rcases (by omega : i = 0 ∨ i = 1 ∨ i = 2 ∨ i = 3) with rfl | rfl | rfl | rfl
            · have un : f0 = false := hun
              clear hun
              clear hi hne hlt'
              obtain ⟨i0, i1, i2, i3⟩ := (F29KA.out.on hB).four
              refine wpOp_step rfl (fun K hK => ?_)
              have HK : Shut _ := hK
              clear hK
              go_simp
              refine HK.out _ _ ?_
              exact ⟨true, f1, f2, f3, f4, rfl, e4, _, _, _, _, rfl, hB, (fun _ => rfl), h1, h2, h3⟩
            · have un : f1 = false := hun
              clear hun
              have d0 : f0 = true := ready_dep 0 hi (by kernel_rfl)
              have y0 := h0.out d0
              subst y0
              clear hi hne hlt'
              refine wpOp_step rfl (fun K hK => ?_)
              have HK : Shut _ := hK
              clear hK
              go_simp
              refine Calls.mono (of_any dn.leaf _ _ _ w' dn (F29RA.out.below hB)) ?_
              rintro e w1 ⟨rfl, b1⟩
              refine HK.out _ _ ?_
              exact ⟨f0, true, f2, f3, f4, rfl, e4, _, _, _, _, rfl, belCall b1 hB, h0, (fun _ => rfl), h2, h3⟩
            · have un : f2 = false := hun
              clear hun
              clear hi hne hlt'
              obtain ⟨i0, i1, i2, i3⟩ := (F27KC.out.on hB).four
              refine wpOp_step rfl (fun K hK => ?_)
              have HK : Shut _ := hK
              clear hK
              go_simp
              refine HK.out _ _ ?_
              exact ⟨f0, f1, true, f3, f4, rfl, e4, _, _, _, _, rfl, hB, h0, h1, (fun _ => rfl), h3⟩
            · have un : f3 = false := hun
              clear hun
              have d1 : f1 = true := ready_dep 1 hi (by kernel_rfl)
              have y1 := h1.out d1
              subst y1
              have d2 : f2 = true := ready_dep 2 hi (by kernel_rfl)
              have y2 := h2.out d2
              subst y2
              clear hi hne hlt'
              refine wpOp_step rfl (fun K hK => ?_)
              have HK : Shut _ := hK
              clear hK
              go_simp
              refine Calls.mono (nsame_any dn _ _ _ _ _ _ w' (F29RA.out.below hB) (F28RC.out.below hB) dsm) ?_
              rintro e w1 ⟨rfl, b1⟩
              refine HK.out _ _ ?_
              exact ⟨f0, f1, f2, true, f4, rfl, e4, _, _, _, _, rfl, belCall b1 hB, h0, h1, h2, (fun _ => rfl)⟩
          · intro f a w' hl hJ
            refine JBy.elim hJ (C := fun f a w' => 4 ∈ Region.ready .any _ f.toArray → wpOp _ _ _ 4 _ a w') ?_
            clear hJ hl f a
            intro f0 f1 f2 f3 f4 x118 x119 x120 x121 e4 hB h0 h1 h2 h3 hi
            have d3 : f3 = true := ready_dep 3 hi (by kernel_rfl)
            have y3 := h3.out d3
            subst y3
            clear hi
            refine wpOp_step rfl (fun K hK => ?_)
            have HK : Shut _ := hK
            clear hK
            go_simp
            refine HK.out _ _ ?_
            have BQ : Hid (Below w.heap.size w w') := B29.out.trans (hB.mono B29.out.size)
            clear h0 h1 h2 h3 hB
            cases ok with
            | true =>
              have e9 : er = 0 := D3.out.symm
              subst e9
              go_wp2
              go_ret
              exact ⟨rfl, BQ.out⟩
            | false =>
              have e9 : er = 3 := D3.out.symm
              subst e9
              go_wp2
              go_ret
              exact ⟨rfl, BQ.out⟩
          · rintro f a w' ⟨f0, f1, f2, f3, f4, rfl, rfl, _⟩
            rfl

end Go.Proofs.Ytmamnlphhiaeoaa
