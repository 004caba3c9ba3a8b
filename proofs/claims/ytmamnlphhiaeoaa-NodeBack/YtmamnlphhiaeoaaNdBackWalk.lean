/-
  The walk of NodeBack.
-/
import Derived.Test.YtmamnlphhiaeoaaNdWorks
import Derived.Test.YtmamnlphhiaeoaaNdOpen
import Derived.Test.YtmamnlphhiaeoaaNdBk
namespace Go.Proofs.Ytmamnlphhiaeoaa
open Go.Shelf Go.RowKit Go.Lib Go.Sort

/-- What holds between the operations of the region. -/
def JBs (W0 : World) (p Q : Nat) (VA VN : Value) (y0 y1 y2 y4 y5 y6 y7 y8 y9 y10 y11 y13 y14 y15 y16 y17 y18 y19 y20 y21 y22 y23 y24 y25 y26 y27 y28 y29 y30 y31 y32 y33 y34 y35 y36 y37 y38 y39 y40 y41 y42 y43 y44 y45 y46 y47 y48 y49 y50 y56 y57 y58 y59 y60 y61 y62 y63 y64 y65 y66 y67 y68 y69 y70 y71 y72 y73 y74 y75 y76 y77 y78 y79 y80 y81 y82 y83 y84 y85 y86 y87 y88 y89 y90 y91 y92 y93 y94 y95 y96 y97 y98 y99 y100 y101 y102 y103 y104 y105 y106 y107 y108 y109 y110 y111 y112 y113 y114 y115 y116 y117 y118 y119 y120 y121 y122 y123 y124 y125 y126 y127 y128 y129 y130 y131 y132 y133 y134 y135 y136 y137 y138 y139 y140 y141 y142 y143 y144 y145 y146 y147 y148 y149 y150 y151 y152 y153 y154 y155 y156 y157 y158 y159 y160 y161 y162 : Value) (f : List Bool) (a : Act) (w : World) : Prop :=
  ∃ f0 f1 f2 f3 f4 f5 : Bool, f = [f0, f1, f2, f3, f4, f5] ∧ f5 = false ∧ ∃ x51 x52 x53 x54 x55 : Value,
    a = { tmps := #[y0, y1, y2, .pointer (some ⟨p, 0, none⟩), y4, y5, y6, y7, y8, y9, y10, y11, .pointer (some ⟨Q, 0, none⟩), y13, y14, y15, y16, y17, y18, y19, y20, y21, y22, y23, y24, y25, y26, y27, y28, y29, y30, y31, y32, y33, y34, y35, y36, y37, y38, y39, y40, y41, y42, y43, y44, y45, y46, y47, y48, y49, y50, x51, x52, x53, x54, x55, y56, y57, y58, y59, y60, y61, y62, y63, y64, y65, y66, y67, y68, y69, y70, y71, y72, y73, y74, y75, y76, y77, y78, y79, y80, y81, y82, y83, y84, y85, y86, y87, y88, y89, y90, y91, y92, y93, y94, y95, y96, y97, y98, y99, y100, y101, y102, y103, y104, y105, y106, y107, y108, y109, y110, y111, y112, y113, y114, y115, y116, y117, y118, y119, y120, y121, y122, y123, y124, y125, y126, y127, y128, y129, y130, y131, y132, y133, y134, y135, y136, y137, y138, y139, y140, y141, y142, y143, y144, y145, y146, y147, y148, y149, y150, y151, y152, y153, y154, y155, y156, y157, y158, y159, y160, y161, y162], defers := [] } ∧ Below W0.heap.size W0 w ∧
    Hid (f0 = true → x51 = VA) ∧
    Hid (f1 = true → x52 = VA) ∧
    Hid (f2 = true → x53 = VN) ∧
    Hid (f3 = true → x54 = VN) ∧
    Hid (f4 = true → x55 = .bool true)
theorem JBs.elim {W0 : World} {p Q : Nat} {VA VN : Value} {y0 y1 y2 y4 y5 y6 y7 y8 y9 y10 y11 y13 y14 y15 y16 y17 y18 y19 y20 y21 y22 y23 y24 y25 y26 y27 y28 y29 y30 y31 y32 y33 y34 y35 y36 y37 y38 y39 y40 y41 y42 y43 y44 y45 y46 y47 y48 y49 y50 y56 y57 y58 y59 y60 y61 y62 y63 y64 y65 y66 y67 y68 y69 y70 y71 y72 y73 y74 y75 y76 y77 y78 y79 y80 y81 y82 y83 y84 y85 y86 y87 y88 y89 y90 y91 y92 y93 y94 y95 y96 y97 y98 y99 y100 y101 y102 y103 y104 y105 y106 y107 y108 y109 y110 y111 y112 y113 y114 y115 y116 y117 y118 y119 y120 y121 y122 y123 y124 y125 y126 y127 y128 y129 y130 y131 y132 y133 y134 y135 y136 y137 y138 y139 y140 y141 y142 y143 y144 y145 y146 y147 y148 y149 y150 y151 y152 y153 y154 y155 y156 y157 y158 y159 y160 y161 y162 : Value} {f : List Bool} {a : Act} {w : World} {C : List Bool → Act → World → Prop} (h : JBs W0 p Q VA VN y0 y1 y2 y4 y5 y6 y7 y8 y9 y10 y11 y13 y14 y15 y16 y17 y18 y19 y20 y21 y22 y23 y24 y25 y26 y27 y28 y29 y30 y31 y32 y33 y34 y35 y36 y37 y38 y39 y40 y41 y42 y43 y44 y45 y46 y47 y48 y49 y50 y56 y57 y58 y59 y60 y61 y62 y63 y64 y65 y66 y67 y68 y69 y70 y71 y72 y73 y74 y75 y76 y77 y78 y79 y80 y81 y82 y83 y84 y85 y86 y87 y88 y89 y90 y91 y92 y93 y94 y95 y96 y97 y98 y99 y100 y101 y102 y103 y104 y105 y106 y107 y108 y109 y110 y111 y112 y113 y114 y115 y116 y117 y118 y119 y120 y121 y122 y123 y124 y125 y126 y127 y128 y129 y130 y131 y132 y133 y134 y135 y136 y137 y138 y139 y140 y141 y142 y143 y144 y145 y146 y147 y148 y149 y150 y151 y152 y153 y154 y155 y156 y157 y158 y159 y160 y161 y162 f a w)
    (k : ∀ (f0 f1 f2 f3 f4 f5 : Bool) (x51 x52 x53 x54 x55 : Value), f5 = false → Below W0.heap.size W0 w →
      Hid (f0 = true → x51 = VA) →
      Hid (f1 = true → x52 = VA) →
      Hid (f2 = true → x53 = VN) →
      Hid (f3 = true → x54 = VN) →
      Hid (f4 = true → x55 = .bool true) →
      C [f0, f1, f2, f3, f4, f5] { tmps := #[y0, y1, y2, .pointer (some ⟨p, 0, none⟩), y4, y5, y6, y7, y8, y9, y10, y11, .pointer (some ⟨Q, 0, none⟩), y13, y14, y15, y16, y17, y18, y19, y20, y21, y22, y23, y24, y25, y26, y27, y28, y29, y30, y31, y32, y33, y34, y35, y36, y37, y38, y39, y40, y41, y42, y43, y44, y45, y46, y47, y48, y49, y50, x51, x52, x53, x54, x55, y56, y57, y58, y59, y60, y61, y62, y63, y64, y65, y66, y67, y68, y69, y70, y71, y72, y73, y74, y75, y76, y77, y78, y79, y80, y81, y82, y83, y84, y85, y86, y87, y88, y89, y90, y91, y92, y93, y94, y95, y96, y97, y98, y99, y100, y101, y102, y103, y104, y105, y106, y107, y108, y109, y110, y111, y112, y113, y114, y115, y116, y117, y118, y119, y120, y121, y122, y123, y124, y125, y126, y127, y128, y129, y130, y131, y132, y133, y134, y135, y136, y137, y138, y139, y140, y141, y142, y143, y144, y145, y146, y147, y148, y149, y150, y151, y152, y153, y154, y155, y156, y157, y158, y159, y160, y161, y162], defers := [] } w) : C f a w :=
  let ⟨f0, f1, f2, f3, f4, f5, ef, e, x51, x52, x53, x54, x55, ea, hB, h0, h1, h2, h3, h4⟩ := h
  ef ▸ ea ▸ k f0 f1 f2 f3 f4 f5 x51 x52 x53 x54 x55 e hB h0 h1 h2 h3 h4

/-- What holds between the operations of the region. -/
def JBk (W0 : World) (p QA QB : Nat) (lf : Bool) (mid : ByteArray) (VA VB VN : Value) (es : List En) (ks : List Int) (ss : List ByteArray) (y0 y1 y2 y4 y5 y6 y7 y8 y9 y10 y11 y12 y13 y14 y15 y16 y17 y18 y19 y23 y24 y25 y26 y27 y28 y29 y30 y31 y32 y33 y34 y35 y36 y37 y38 y39 y40 y41 y42 y43 y44 y45 y46 y47 y48 y49 y50 y51 y52 y53 y54 y55 y56 y57 y58 y59 y60 y61 y62 y63 y64 y65 y66 y67 y68 y69 y70 y71 y72 y73 y74 y75 y76 y77 y78 y79 y80 y81 y82 y83 y84 y85 y86 y87 y88 y89 y90 y91 y92 y93 y94 y95 y96 y97 y98 y99 y100 y101 y102 y103 y104 y105 y106 y107 y108 y109 y110 y111 y112 y113 y114 y115 y116 y117 y118 y119 y120 y121 y130 y131 y132 y133 y134 y135 y136 y137 y138 y139 y140 y141 y142 y143 y144 y145 y146 y147 y148 y149 y150 y151 y152 y153 y154 y155 y156 y157 y158 y159 y160 y161 y162 : Value) (f : List Bool) (a : Act) (w : World) : Prop :=
  ∃ f0 f1 f2 f3 f4 f5 f6 f7 f8 : Bool, f = [f0, f1, f2, f3, f4, f5, f6, f7, f8] ∧ f8 = false ∧ ∃ x122 x123 x124 x125 x126 x127 x128 x129 : Value,
    a = { tmps := #[y0, y1, y2, .pointer (some ⟨p, 0, none⟩), y4, y5, y6, y7, y8, y9, y10, y11, y12, y13, y14, y15, y16, y17, y18, y19, .pointer (some ⟨QA, 0, none⟩), .string mid, .pointer (some ⟨QB, 0, none⟩), y23, y24, y25, y26, y27, y28, y29, y30, y31, y32, y33, y34, y35, y36, y37, y38, y39, y40, y41, y42, y43, y44, y45, y46, y47, y48, y49, y50, y51, y52, y53, y54, y55, y56, y57, y58, y59, y60, y61, y62, y63, y64, y65, y66, y67, y68, y69, y70, y71, y72, y73, y74, y75, y76, y77, y78, y79, y80, y81, y82, y83, y84, y85, y86, y87, y88, y89, y90, y91, y92, y93, y94, y95, y96, y97, y98, y99, y100, y101, y102, y103, y104, y105, y106, y107, y108, y109, y110, y111, y112, y113, y114, y115, y116, y117, y118, y119, y120, y121, x122, x123, x124, x125, x126, x127, x128, x129, y130, y131, y132, y133, y134, y135, y136, y137, y138, y139, y140, y141, y142, y143, y144, y145, y146, y147, y148, y149, y150, y151, y152, y153, y154, y155, y156, y157, y158, y159, y160, y161, y162], defers := [] } ∧ Below W0.heap.size W0 w ∧
    Hid (f0 = true → x122 = VA) ∧
    Hid (f1 = true → x123 = .string mid) ∧
    Hid (f2 = true → x124 = VB) ∧
    Hid (f3 = true → ∃ a1 c1 a2 c2 a3 c3, x125 = .agg #[.bool lf, .slice a1 es.length c1, .slice a2 ks.length c2, .slice a3 ss.length c3] ∧ NdO W0.heap.size w (.slice a1 es.length c1) (.slice a2 ks.length c2) (.slice a3 ss.length c3) ⟨lf, es, ks, ss⟩) ∧
    Hid (f4 = true → f3 = true ∧ x126 = x125) ∧
    Hid (f5 = true → x127 = VN) ∧
    Hid (f6 = true → x128 = VN) ∧
    Hid (f7 = true → x129 = .bool true)
theorem JBk.elim {W0 : World} {p QA QB : Nat} {lf : Bool} {mid : ByteArray} {VA VB VN : Value} {es : List En} {ks : List Int} {ss : List ByteArray} {y0 y1 y2 y4 y5 y6 y7 y8 y9 y10 y11 y12 y13 y14 y15 y16 y17 y18 y19 y23 y24 y25 y26 y27 y28 y29 y30 y31 y32 y33 y34 y35 y36 y37 y38 y39 y40 y41 y42 y43 y44 y45 y46 y47 y48 y49 y50 y51 y52 y53 y54 y55 y56 y57 y58 y59 y60 y61 y62 y63 y64 y65 y66 y67 y68 y69 y70 y71 y72 y73 y74 y75 y76 y77 y78 y79 y80 y81 y82 y83 y84 y85 y86 y87 y88 y89 y90 y91 y92 y93 y94 y95 y96 y97 y98 y99 y100 y101 y102 y103 y104 y105 y106 y107 y108 y109 y110 y111 y112 y113 y114 y115 y116 y117 y118 y119 y120 y121 y130 y131 y132 y133 y134 y135 y136 y137 y138 y139 y140 y141 y142 y143 y144 y145 y146 y147 y148 y149 y150 y151 y152 y153 y154 y155 y156 y157 y158 y159 y160 y161 y162 : Value} {f : List Bool} {a : Act} {w : World} {C : List Bool → Act → World → Prop} (h : JBk W0 p QA QB lf mid VA VB VN es ks ss y0 y1 y2 y4 y5 y6 y7 y8 y9 y10 y11 y12 y13 y14 y15 y16 y17 y18 y19 y23 y24 y25 y26 y27 y28 y29 y30 y31 y32 y33 y34 y35 y36 y37 y38 y39 y40 y41 y42 y43 y44 y45 y46 y47 y48 y49 y50 y51 y52 y53 y54 y55 y56 y57 y58 y59 y60 y61 y62 y63 y64 y65 y66 y67 y68 y69 y70 y71 y72 y73 y74 y75 y76 y77 y78 y79 y80 y81 y82 y83 y84 y85 y86 y87 y88 y89 y90 y91 y92 y93 y94 y95 y96 y97 y98 y99 y100 y101 y102 y103 y104 y105 y106 y107 y108 y109 y110 y111 y112 y113 y114 y115 y116 y117 y118 y119 y120 y121 y130 y131 y132 y133 y134 y135 y136 y137 y138 y139 y140 y141 y142 y143 y144 y145 y146 y147 y148 y149 y150 y151 y152 y153 y154 y155 y156 y157 y158 y159 y160 y161 y162 f a w)
    (k : ∀ (f0 f1 f2 f3 f4 f5 f6 f7 f8 : Bool) (x122 x123 x124 x125 x126 x127 x128 x129 : Value), f8 = false → Below W0.heap.size W0 w →
      Hid (f0 = true → x122 = VA) →
      Hid (f1 = true → x123 = .string mid) →
      Hid (f2 = true → x124 = VB) →
      Hid (f3 = true → ∃ a1 c1 a2 c2 a3 c3, x125 = .agg #[.bool lf, .slice a1 es.length c1, .slice a2 ks.length c2, .slice a3 ss.length c3] ∧ NdO W0.heap.size w (.slice a1 es.length c1) (.slice a2 ks.length c2) (.slice a3 ss.length c3) ⟨lf, es, ks, ss⟩) →
      Hid (f4 = true → f3 = true ∧ x126 = x125) →
      Hid (f5 = true → x127 = VN) →
      Hid (f6 = true → x128 = VN) →
      Hid (f7 = true → x129 = .bool true) →
      C [f0, f1, f2, f3, f4, f5, f6, f7, f8] { tmps := #[y0, y1, y2, .pointer (some ⟨p, 0, none⟩), y4, y5, y6, y7, y8, y9, y10, y11, y12, y13, y14, y15, y16, y17, y18, y19, .pointer (some ⟨QA, 0, none⟩), .string mid, .pointer (some ⟨QB, 0, none⟩), y23, y24, y25, y26, y27, y28, y29, y30, y31, y32, y33, y34, y35, y36, y37, y38, y39, y40, y41, y42, y43, y44, y45, y46, y47, y48, y49, y50, y51, y52, y53, y54, y55, y56, y57, y58, y59, y60, y61, y62, y63, y64, y65, y66, y67, y68, y69, y70, y71, y72, y73, y74, y75, y76, y77, y78, y79, y80, y81, y82, y83, y84, y85, y86, y87, y88, y89, y90, y91, y92, y93, y94, y95, y96, y97, y98, y99, y100, y101, y102, y103, y104, y105, y106, y107, y108, y109, y110, y111, y112, y113, y114, y115, y116, y117, y118, y119, y120, y121, x122, x123, x124, x125, x126, x127, x128, x129, y130, y131, y132, y133, y134, y135, y136, y137, y138, y139, y140, y141, y142, y143, y144, y145, y146, y147, y148, y149, y150, y151, y152, y153, y154, y155, y156, y157, y158, y159, y160, y161, y162], defers := [] } w) : C f a w :=
  let ⟨f0, f1, f2, f3, f4, f5, f6, f7, f8, ef, e, x122, x123, x124, x125, x126, x127, x128, x129, ea, hB, h0, h1, h2, h3, h4, h5, h6, h7⟩ := h
  ef ▸ ea ▸ k f0 f1 f2 f3 f4 f5 f6 f7 f8 x122 x123 x124 x125 x126 x127 x128 x129 e hB h0 h1 h2 h3 h4 h5 h6 h7

set_option maxHeartbeats 16000000 in
set_option maxRecDepth 100000 in
theorem nodeBack_walk (v0 : Value) (n : Nd) (kind : Int) (body : ByteArray) (w : World) (h0 : NdA w v0 n) (_hkd : 0 ≤ kind ∧ kind ≤ 255) (hb : body.size ≤ maxLen) :
    Calls Try.prog 5 #[v0, .int .u8 kind, .string body] w fun e w' => e = .returned (.bool true) ∧ Below w.heap.size w w' := by
  obtain ⟨ve, vk, vs, rfl, h0⟩ := h0
  obtain ⟨lf, es, ks, ss⟩ := n
  obtain ⟨ae, ce, rfl, _⟩ := rowShape h0.e
  obtain ⟨ak, ck, rfl, _⟩ := rowShape h0.k
  obtain ⟨az, cz, rfl, _⟩ := rowShape h0.s
  simp only at *
  have B0 : Hid (Below w.heap.size w (w.alloc (.cells #[.bool lf, .slice ae es.length ce, .slice ak ks.length ck, .slice az ss.length cz] 26))) := belAlloc _ (Below.refl _ _)
  have KP : Cl (w.alloc (.cells #[.bool lf, .slice ae es.length ce, .slice ak ks.length ck, .slice az ss.length cz] 26)) w.heap.size #[.bool lf, .slice ae es.length ce, .slice ak ks.length ck, .slice az ss.length cz] 26 := Cl.new0 _ _ _
  have HN := h0.below B0.out
  clear h0
  have HBm : Hid (body.size ≤ maxLen) := hb
  clear hb
  go_enter Try.func5, Try.ntmps5
  go_upto_region 1 with fail
  generalize (w.alloc (.cells #[.bool lf, .slice ae es.length ce, .slice ak ks.length ck, .slice az ss.length cz] 26)) = w0 at *
  obtain ⟨p, hp⟩ : ∃ p, w.heap.size = p := ⟨_, rfl⟩
  have HP : Hid (w.heap.size = p) := hp
  rw [hp] at KP ⊢
  clear hp
  have F1P : Aside (Cl w0 p #[.bool lf, .slice ae es.length ce, .slice ak ks.length ck, .slice az ss.length cz] 26) := KP
  have F2N : Aside (NdR w0 (.slice ae es.length ce) (.slice ak ks.length ck) (.slice az ss.length cz) ⟨lf, es, ks, ss⟩) := HN
  clear KP HN
  have C3 : Hid _ := nworks_any w0
  go_wp2_with fail
  refine Calls.mono C3.out ?_
  rintro e w3 ⟨rfl, hb3⟩
  clear C3
  have B4 : Hid (Below w.heap.size w w3) := B0.out.trans (hb3.mono B0.out.size)
  have F4P : Aside (Cl w3 p #[.bool lf, .slice ae es.length ce, .slice ak ks.length ck, .slice az ss.length cz] 26) := Cl.on F1P.out hb3
  clear F1P
  have F4N : Aside (NdR w3 (.slice ae es.length ce) (.slice ak ks.length ck) (.slice az ss.length cz) ⟨lf, es, ks, ss⟩) := F2N.out.below hb3
  clear F2N
  clear B0
  clear hb3
  obtain ⟨q4P0, q4P1, q4P2, q4P3⟩ := F4P.out.four
  have q4Pl := F4P.out.lt
  have CO : Hid _ := nover_any ⟨lf, es, ks, ss⟩ _ _ _ w3 F4N.out
  go_wp2_with fail
  refine Calls.mono CO.out ?_
  rintro e wo ⟨hov, hbo⟩
  clear CO
  clear q4P0 q4P1 q4P2 q4P3 q4Pl
  have B6 : Hid (Below w.heap.size w wo) := B4.out.trans (hbo.mono B4.out.size)
  have F6P : Aside (Cl wo p #[.bool lf, .slice ae es.length ce, .slice ak ks.length ck, .slice az ss.length cz] 26) := Cl.on F4P.out hbo
  clear F4P
  have F6N : Aside (NdR wo (.slice ae es.length ce) (.slice ak ks.length ck) (.slice az ss.length cz) ⟨lf, es, ks, ss⟩) := F4N.out.below hbo
  clear F4N
  clear B4
  clear hbo
  rcases hov with rfl | ⟨rfl, ov⟩
  ·
    go_wp2
    go_ret
    exact ⟨rfl, B6.out⟩
  ·
    by_cases hkl : 1000 < body.size
    ·
      have hklz : (1000 : Int) < (body.size : Int) := by omega
      go_wp2
      go_ret
      exact ⟨rfl, B6.out⟩
    ·
      have hklz : ¬ (1000 : Int) < (body.size : Int) := by omega
      have sm := ov.sm
      have s1 := ov.e
      have s2 := ov.k
      have s3 := ov.s
      simp only at s1 s2 s3
      obtain ⟨q6P0, q6P1, q6P2, q6P3⟩ := F6P.out.four
      have q6Pl := F6P.out.lt
      by_cases fit : rtN ⟨lf, es, ks, ss⟩ = true ∧ szN ⟨lf, es, ks, ss⟩ ≤ 240
      ·
        obtain ⟨x1, x2⟩ := fit
        obtain ⟨y1, y2, y3, y4⟩ := de_en x1 x2
        have y5 := (en_yes x1 x2).2.2
        obtain ⟨kd, hkd⟩ : ∃ x, enK ⟨lf, es, ks, ss⟩ = x := ⟨_, rfl⟩
        obtain ⟨sb, hsb⟩ : ∃ x, enS ⟨lf, es, ks, ss⟩ = x := ⟨_, rfl⟩
        rw [hkd, hsb] at y1 y2
        rw [hsb] at y3 y4
        have Y1 : Hid _ := y1
        have Y2 : Hid _ := y2
        have Y3 : Hid _ := y3
        have Y5 : Hid _ := y5
        have HK : Hid _ := hkd
        have HSb : Hid _ := hsb
        clear x1 x2 y1 y2 y3 y5 hkd hsb
        have C7 : Hid _ := nencode_any ⟨lf, es, ks, ss⟩ _ _ _ wo F6N.out sm
        rw [HK.out] at C7
        rw [HSb.out] at C7
        rw [Y5.out] at C7
        go_wp2_with fail
        refine Calls.mono C7.out ?_
        rintro e w7 ⟨rfl, hb7⟩
        clear C7
        clear q6P0 q6P1 q6P2 q6P3 q6Pl
        have B8 : Hid (Below w.heap.size w w7) := B6.out.trans (hb7.mono B6.out.size)
        have F8P : Aside (Cl w7 p #[.bool lf, .slice ae es.length ce, .slice ak ks.length ck, .slice az ss.length cz] 26) := Cl.on F6P.out hb7
        clear F6P
        have F8N : Aside (NdR w7 (.slice ae es.length ce) (.slice ak ks.length ck) (.slice az ss.length cz) ⟨lf, es, ks, ss⟩) := F6N.out.below hb7
        clear F6N
        clear B6
        clear hb7
        have C9 : Hid _ := ndecode_is kd sb w7 (by unfold maxLen; omega) ⟨lf, es, ks, ss⟩ true Y1.out Y2.out 0 rfl
        go_wp2_with fail
        refine Calls.mono C9.out ?_
        rintro e v9 ⟨x9e, x9k, x9s, rfl, o9, h9⟩
        clear C9
        obtain ⟨a9e, c9e, rfl, _⟩ := rowShape o9.r.e
        obtain ⟨a9k, c9k, rfl, _⟩ := rowShape o9.r.k
        obtain ⟨a9s, c9s, rfl, _⟩ := rowShape o9.r.s
        have g9 := (belAlloc _ h9 : Below w7.heap.size w7 (v9.alloc (.cells #[.bool lf, .slice a9e (es.length) c9e, .slice a9k (ks.length) c9k, .slice a9s (ss.length) c9s] 26)))
        have F10KM : Aside (Cl (v9.alloc (.cells #[.bool lf, .slice a9e (es.length) c9e, .slice a9k (ks.length) c9k, .slice a9s (ss.length) c9s] 26)) v9.heap.size #[.bool lf, .slice a9e (es.length) c9e, .slice a9k (ks.length) c9k, .slice a9s (ss.length) c9s] 26) := Cl.new _ _ _
        have F11RM : Aside (NdR (v9.alloc (.cells #[.bool lf, .slice a9e (es.length) c9e, .slice a9k (ks.length) c9k, .slice a9s (ss.length) c9s] 26)) (.slice a9e (es.length) c9e) (.slice a9k (ks.length) c9k) (.slice a9s (ss.length) c9s) ⟨lf, es, ks, ss⟩) := o9.r.below (belAlloc _ (Below.refl _ _))
        have B12 : Hid (Below w.heap.size w (v9.alloc (.cells #[.bool lf, .slice a9e (es.length) c9e, .slice a9k (ks.length) c9k, .slice a9s (ss.length) c9s] 26))) := B8.out.trans (g9.mono B8.out.size)
        have F12P : Aside (Cl (v9.alloc (.cells #[.bool lf, .slice a9e (es.length) c9e, .slice a9k (ks.length) c9k, .slice a9s (ss.length) c9s] 26)) p #[.bool lf, .slice ae es.length ce, .slice ak ks.length ck, .slice az ss.length cz] 26) := Cl.on F8P.out g9
        clear F8P
        have F12N : Aside (NdR (v9.alloc (.cells #[.bool lf, .slice a9e (es.length) c9e, .slice a9k (ks.length) c9k, .slice a9s (ss.length) c9s] 26)) (.slice ae es.length ce) (.slice ak ks.length ck) (.slice az ss.length cz) ⟨lf, es, ks, ss⟩) := F8N.out.below g9
        clear F8N
        clear B8
        clear g9 h9 o9
        go_upto_region 10 with fail
        generalize (v9.alloc (.cells #[.bool lf, .slice a9e (es.length) c9e, .slice a9k (ks.length) c9k, .slice a9s (ss.length) c9s] 26)) = u9 at *
        generalize v9.heap.size = QM at *
        refine region_inv 5 (JBs u9 p QM (.agg #[.bool lf, .slice a9e (es.length) c9e, .slice a9k (ks.length) c9k, .slice a9s (ss.length) c9s]) (.agg #[.bool lf, .slice ae es.length ce, .slice ak ks.length ck, .slice az ss.length cz]) _ _ _ _ _ _ _ _ _ _ _ _ _ _ _ _ _ _ _ _ _ _ _ _ _ _ _ _ _ _ _ _ _ _ _ _ _ _ _ _ _ _ _ _ _ _ _ _ _ _ _ _ _ _ _ _ _ _ _ _ _ _ _ _ _ _ _ _ _ _ _ _ _ _ _ _ _ _ _ _ _ _ _ _ _ _ _ _ _ _ _ _ _ _ _ _ _ _ _ _ _ _ _ _ _ _ _ _ _ _ _ _ _ _ _ _ _ _ _ _ _ _ _ _ _ _ _ _ _ _ _ _ _ _ _ _ _ _ _ _ _ _ _ _ _ _ _ _ _ _ _ _ _ _ _ _) (by kernel_rfl) (by kernel_rfl) (by kernel_rfl) ⟨false, false, false, false, false, false, rfl, rfl, _, _, _, _, _, rfl, (Below.refl _ u9).drew, (fun h => by cases h), (fun h => by cases h), (fun h => by cases h), (fun h => by cases h), (fun h => by cases h)⟩ ?_ ?_ ?_
        · intro i f a w' hne hl hJ
          refine JBs.elim hJ (C := fun f a w' => i ∈ Region.ready .any _ f.toArray → wpOp _ _ _ i (fun a' w'' => JBs u9 p QM (.agg #[.bool lf, .slice a9e (es.length) c9e, .slice a9k (ks.length) c9k, .slice a9s (ss.length) c9s]) (.agg #[.bool lf, .slice ae es.length ce, .slice ak ks.length ck, .slice az ss.length cz]) _ _ _ _ _ _ _ _ _ _ _ _ _ _ _ _ _ _ _ _ _ _ _ _ _ _ _ _ _ _ _ _ _ _ _ _ _ _ _ _ _ _ _ _ _ _ _ _ _ _ _ _ _ _ _ _ _ _ _ _ _ _ _ _ _ _ _ _ _ _ _ _ _ _ _ _ _ _ _ _ _ _ _ _ _ _ _ _ _ _ _ _ _ _ _ _ _ _ _ _ _ _ _ _ _ _ _ _ _ _ _ _ _ _ _ _ _ _ _ _ _ _ _ _ _ _ _ _ _ _ _ _ _ _ _ _ _ _ _ _ _ _ _ _ _ _ _ _ _ _ _ _ _ _ _ _ (f.set i true) a' w'') a w') ?_
          clear hJ hl f a
          intro f0 f1 f2 f3 f4 f5 x51 x52 x53 x54 x55 e5 hB h0 h1 h2 h3 h4 hi
          obtain ⟨hlt, hun, _⟩ := ready_mem hi
          have hlt' : i < 6 := hlt
          clear hlt
          rcases (by omega : i = 0 ∨ i = 1 ∨ i = 2 ∨ i = 3 ∨ i = 4) with rfl | rfl | rfl | rfl | rfl
          · have un : f0 = false := hun
            clear hun
            clear hi hne hlt'
            obtain ⟨i0, i1, i2, i3⟩ := (F10KM.out.on hB).four
            refine wpOp_step rfl (fun K hK => ?_)
            have HK : Shut _ := hK
            clear hK
            go_simp
            refine HK.out _ _ ?_
            exact ⟨true, f1, f2, f3, f4, f5, rfl, e5, _, _, _, _, _, rfl, hB, (fun _ => rfl), h1, h2, h3, h4⟩
          · have un : f1 = false := hun
            clear hun
            have d0 : f0 = true := ready_dep 0 hi (by kernel_rfl)
            have y0 := h0.out d0
            subst y0
            clear hi hne hlt'
            refine wpOp_step rfl (fun K hK => ?_)
            have HK : Shut _ := hK
            clear hK
            go_simp
            refine Calls.mono (of_any lf _ _ _ w' ⟨lf, es, ks, ss⟩ (F11RM.out.below hB)) ?_
            rintro e w1 ⟨rfl, b1⟩
            refine HK.out _ _ ?_
            exact ⟨f0, true, f2, f3, f4, f5, rfl, e5, _, _, _, _, _, rfl, belCall b1 hB, h0, (fun _ => rfl), h2, h3, h4⟩
          · have un : f2 = false := hun
            clear hun
            clear hi hne hlt'
            obtain ⟨i0, i1, i2, i3⟩ := (F12P.out.on hB).four
            refine wpOp_step rfl (fun K hK => ?_)
            have HK : Shut _ := hK
            clear hK
            go_simp
            refine HK.out _ _ ?_
            exact ⟨f0, f1, true, f3, f4, f5, rfl, e5, _, _, _, _, _, rfl, hB, h0, h1, (fun _ => rfl), h3, h4⟩
          · have un : f3 = false := hun
            clear hun
            have d2 : f2 = true := ready_dep 2 hi (by kernel_rfl)
            have y2 := h2.out d2
            subst y2
            clear hi hne hlt'
            refine wpOp_step rfl (fun K hK => ?_)
            have HK : Shut _ := hK
            clear hK
            go_simp
            refine Calls.mono (of_any lf _ _ _ w' ⟨lf, es, ks, ss⟩ (F12N.out.below hB)) ?_
            rintro e w1 ⟨rfl, b1⟩
            refine HK.out _ _ ?_
            exact ⟨f0, f1, f2, true, f4, f5, rfl, e5, _, _, _, _, _, rfl, belCall b1 hB, h0, h1, h2, (fun _ => rfl), h4⟩
          · have un : f4 = false := hun
            clear hun
            have d1 : f1 = true := ready_dep 1 hi (by kernel_rfl)
            have y1 := h1.out d1
            subst y1
            have d3 : f3 = true := ready_dep 3 hi (by kernel_rfl)
            have y3 := h3.out d3
            subst y3
            clear hi hne hlt'
            refine wpOp_step rfl (fun K hK => ?_)
            have HK : Shut _ := hK
            clear hK
            go_simp
            refine Calls.mono (nsame_any ⟨lf, es, ks, ss⟩ _ _ _ _ _ _ w' (F11RM.out.below hB) (F12N.out.below hB) sm) ?_
            rintro e w1 ⟨rfl, b1⟩
            refine HK.out _ _ ?_
            exact ⟨f0, f1, f2, f3, true, f5, rfl, e5, _, _, _, _, _, rfl, belCall b1 hB, h0, h1, h2, h3, (fun _ => rfl)⟩
        · intro f a w' hl hJ
          refine JBs.elim hJ (C := fun f a w' => 5 ∈ Region.ready .any _ f.toArray → wpOp _ _ _ 5 _ a w') ?_
          clear hJ hl f a
          intro f0 f1 f2 f3 f4 f5 x51 x52 x53 x54 x55 e5 hB h0 h1 h2 h3 h4 hi
          have d4 : f4 = true := ready_dep 4 hi (by kernel_rfl)
          have y4 := h4.out d4
          subst y4
          clear hi
          refine wpOp_step rfl (fun K hK => ?_)
          have HK : Shut _ := hK
          clear hK
          go_simp
          refine HK.out _ _ ?_
          have GP : Aside (Cl w' p #[.bool lf, .slice ae es.length ce, .slice ak ks.length ck, .slice az ss.length cz] 26) := F12P.out.on hB
          have GN : Aside (NdR w' (.slice ae es.length ce) (.slice ak ks.length ck) (.slice az ss.length cz) ⟨lf, es, ks, ss⟩) := F12N.out.below hB
          have BQ : Hid (Below w.heap.size w w') := B12.out.trans (hB.mono B12.out.size)
          clear h0 h1 h2 h3 h4 hB F12P F12N F10KM F11RM B12
          obtain ⟨q12P0, q12P1, q12P2, q12P3⟩ := GP.out.four
          have q12Pl := GP.out.lt
          have C13 : Hid _ := nsize_any ⟨lf, es, ks, ss⟩ _ _ _ w' GN.out sm
          rw [← Y3.out] at C13
          go_wp2_with fail
          refine Calls.mono C13.out ?_
          rintro e w13 ⟨rfl, hb13⟩
          clear C13
          clear q12P0 q12P1 q12P2 q12P3 q12Pl
          have B14 : Hid (Below w.heap.size w w13) := BQ.out.trans (hb13.mono BQ.out.size)
          have F14P : Aside (Cl w13 p #[.bool lf, .slice ae es.length ce, .slice ak ks.length ck, .slice az ss.length cz] 26) := Cl.on GP.out hb13
          clear GP
          have F14N : Aside (NdR w13 (.slice ae es.length ce) (.slice ak ks.length ck) (.slice az ss.length cz) ⟨lf, es, ks, ss⟩) := GN.out.below hb13
          clear GN
          clear BQ
          clear hb13
          cases hd : deN kind body.data.toList with
          | none =>
            obtain ⟨d1, d2⟩ := deR_none hd
            obtain ⟨dn, hdn⟩ : ∃ x, nd0 = x := ⟨_, rfl⟩
            rw [hdn] at d1
            have D1 : Hid _ := d1
            have D2 : Hid _ := d2
            clear hd hdn d1 d2
            have C15 : Hid _ := ndecode_is kind body w13 HBm.out dn false D1.out D2.out 3 rfl
            go_wp2_with fail
            refine Calls.mono C15.out ?_
            rintro e v15 ⟨x15e, x15k, x15s, rfl, o15, h15⟩
            clear C15
            obtain ⟨a15e, c15e, rfl, _⟩ := rowShape o15.r.e
            obtain ⟨a15k, c15k, rfl, _⟩ := rowShape o15.r.k
            obtain ⟨a15s, c15s, rfl, _⟩ := rowShape o15.r.s
            have g15 := (belAlloc _ h15 : Below w13.heap.size w13 (v15.alloc (.cells #[.bool dn.leaf, .slice a15e (dn.es.length) c15e, .slice a15k (dn.ks.length) c15k, .slice a15s (dn.ss.length) c15s] 26)))
            have F16KD : Aside (Cl (v15.alloc (.cells #[.bool dn.leaf, .slice a15e (dn.es.length) c15e, .slice a15k (dn.ks.length) c15k, .slice a15s (dn.ss.length) c15s] 26)) v15.heap.size #[.bool dn.leaf, .slice a15e (dn.es.length) c15e, .slice a15k (dn.ks.length) c15k, .slice a15s (dn.ss.length) c15s] 26) := Cl.new _ _ _
            have F17RD : Aside (NdR (v15.alloc (.cells #[.bool dn.leaf, .slice a15e (dn.es.length) c15e, .slice a15k (dn.ks.length) c15k, .slice a15s (dn.ss.length) c15s] 26)) (.slice a15e (dn.es.length) c15e) (.slice a15k (dn.ks.length) c15k) (.slice a15s (dn.ss.length) c15s) dn) := o15.r.below (belAlloc _ (Below.refl _ _))
            have B18 : Hid (Below w.heap.size w (v15.alloc (.cells #[.bool dn.leaf, .slice a15e (dn.es.length) c15e, .slice a15k (dn.ks.length) c15k, .slice a15s (dn.ss.length) c15s] 26))) := B14.out.trans (g15.mono B14.out.size)
            have F18P : Aside (Cl (v15.alloc (.cells #[.bool dn.leaf, .slice a15e (dn.es.length) c15e, .slice a15k (dn.ks.length) c15k, .slice a15s (dn.ss.length) c15s] 26)) p #[.bool lf, .slice ae es.length ce, .slice ak ks.length ck, .slice az ss.length cz] 26) := Cl.on F14P.out g15
            clear F14P
            have F18N : Aside (NdR (v15.alloc (.cells #[.bool dn.leaf, .slice a15e (dn.es.length) c15e, .slice a15k (dn.ks.length) c15k, .slice a15s (dn.ss.length) c15s] 26)) (.slice ae es.length ce) (.slice ak ks.length ck) (.slice az ss.length cz) ⟨lf, es, ks, ss⟩) := F14N.out.below g15
            clear F14N
            clear B14
            clear g15 h15 o15
            go_upto_region 14 with fail
            generalize (v15.alloc (.cells #[.bool dn.leaf, .slice a15e (dn.es.length) c15e, .slice a15k (dn.ks.length) c15k, .slice a15s (dn.ss.length) c15s] 26)) = u15 at *
            generalize v15.heap.size = QD at *
            cases hr3 : rtN ⟨lf, es, ks, ss⟩ with
            | false =>
              obtain ⟨q18P0, q18P1, q18P2, q18P3⟩ := F18P.out.four
              have q18Pl := F18P.out.lt
              have C19 : Hid _ := nright_any ⟨lf, es, ks, ss⟩ _ _ _ u15 F18N.out sm
              rw [hr3] at C19
              go_wp2_with fail
              refine Calls.mono C19.out ?_
              rintro e w19 ⟨rfl, hb19⟩
              clear C19
              clear q18P0 q18P1 q18P2 q18P3 q18Pl
              have B20 : Hid (Below w.heap.size w w19) := B18.out.trans (hb19.mono B18.out.size)
              have F20P : Aside (Cl w19 p #[.bool lf, .slice ae es.length ce, .slice ak ks.length ck, .slice az ss.length cz] 26) := Cl.on F18P.out hb19
              clear F18P
              have F20N : Aside (NdR w19 (.slice ae es.length ce) (.slice ak ks.length ck) (.slice az ss.length cz) ⟨lf, es, ks, ss⟩) := F18N.out.below hb19
              clear F18N
              clear B18
              clear hb19
              clear hr3
              go_wp2
              go_ret
              exact ⟨rfl, B20.out⟩
            | true =>
              obtain ⟨q18P0, q18P1, q18P2, q18P3⟩ := F18P.out.four
              have q18Pl := F18P.out.lt
              have C19 : Hid _ := nright_any ⟨lf, es, ks, ss⟩ _ _ _ u15 F18N.out sm
              rw [hr3] at C19
              go_wp2_with fail
              refine Calls.mono C19.out ?_
              rintro e w19 ⟨rfl, hb19⟩
              clear C19
              clear q18P0 q18P1 q18P2 q18P3 q18Pl
              have B20 : Hid (Below w.heap.size w w19) := B18.out.trans (hb19.mono B18.out.size)
              have F20P : Aside (Cl w19 p #[.bool lf, .slice ae es.length ce, .slice ak ks.length ck, .slice az ss.length cz] 26) := Cl.on F18P.out hb19
              clear F18P
              have F20N : Aside (NdR w19 (.slice ae es.length ce) (.slice ak ks.length ck) (.slice az ss.length cz) ⟨lf, es, ks, ss⟩) := F18N.out.below hb19
              clear F18N
              clear B18
              clear hb19
              obtain ⟨q20P0, q20P1, q20P2, q20P3⟩ := F20P.out.four
              have q20Pl := F20P.out.lt
              have HR : Hid _ := hr3
              clear hr3
              by_cases t1 : es.length < 2 ∧ ks.length < 2
              ·
                have t2 : (es.length : Int) < 2 := by omega
                have t3 : (ks.length : Int) < 2 := by omega
                go_wp2
                go_ret
                exact ⟨rfl, B20.out⟩
              ·
                have en : enN ⟨lf, es, ks, ss⟩ = true := by unfold enN; rw [HR.out]; simp; omega
                have bk : Hid _ := sp_back en
                have rg : Hid _ := sp_right en
                have fu := sp_full en
                have smA := spA_sm sm (n := _)
                have smB := spB_sm sm (n := _)
                have lvs := sp_leaf ⟨lf, es, ks, ss⟩
                have hA : sA ⟨lf, es, ks, ss⟩ = spA ⟨lf, es, ks, ss⟩ := by unfold sA; rw [if_pos en]
                have hM : sM ⟨lf, es, ks, ss⟩ = spM ⟨lf, es, ks, ss⟩ := by unfold sM; rw [if_pos en]
                have hB : sB ⟨lf, es, ks, ss⟩ = spB ⟨lf, es, ks, ss⟩ := by unfold sB; rw [if_pos en]
                obtain ⟨A, eA⟩ : ∃ x, spA ⟨lf, es, ks, ss⟩ = x := ⟨_, rfl⟩
                obtain ⟨mid, eM⟩ : ∃ x, spM ⟨lf, es, ks, ss⟩ = x := ⟨_, rfl⟩
                obtain ⟨B, eB⟩ : ∃ x, spB ⟨lf, es, ks, ss⟩ = x := ⟨_, rfl⟩
                rw [eA] at hA bk rg fu smA lvs
                rw [eB] at hB bk rg fu smB lvs
                rw [eM] at hM bk
                have HA : Hid _ := hA
                have HM : Hid _ := hM
                have HBn : Hid _ := hB
                obtain ⟨f1, f2⟩ := fu
                have f1z : (0 : Int) < (A.es.length : Int) + (A.ks.length : Int) := by omega
                have f2z : (0 : Int) < (B.es.length : Int) + (B.ks.length : Int) := by omega
                have q1 := smA.e
                have q2 := smA.k
                have q3 := smB.e
                have q4 := smB.k
                clear hA hM hB eA eM eB lvs en f1 f2
                have tz : ¬ ((es.length : Int) < 2 ∧ (ks.length : Int) < 2) := by omega
                clear t1
                by_cases t1 : (es.length : Int) < 2
                ·
                  have t2 : ¬ (ks.length : Int) < 2 := by omega
                  clear tz
                  have C21 : Hid _ := split_any ⟨lf, es, ks, ss⟩ _ _ _ w19 F20N.out sm
                  rw [HA.out] at C21
                  rw [HM.out] at C21
                  rw [HBn.out] at C21
                  go_wp2_with fail
                  refine Calls.mono C21.out ?_
                  rintro e v21 ⟨x21e, x21k, x21s, y21e, y21k, y21s, rfl, o21, p21, h21⟩
                  clear C21
                  obtain ⟨a21e, c21e, rfl⟩ := ownShape (n := A.es.length) o21.e
                  obtain ⟨a21k, c21k, rfl⟩ := ownShape (n := A.ks.length) o21.k
                  obtain ⟨a21s, c21s, rfl⟩ := ownShape (n := A.ss.length) o21.s
                  obtain ⟨b21e, d21e, rfl⟩ := ownShape (n := B.es.length) p21.e
                  obtain ⟨b21k, d21k, rfl⟩ := ownShape (n := B.ks.length) p21.k
                  obtain ⟨b21s, d21s, rfl⟩ := ownShape (n := B.ss.length) p21.s
                  have g21 := (belAlloc _ (belAlloc _ h21) : Below w19.heap.size w19 ((v21.alloc (.cells #[.bool A.leaf, .slice a21e (A.es.length) c21e, .slice a21k (A.ks.length) c21k, .slice a21s (A.ss.length) c21s] 26)).alloc (.cells #[.bool B.leaf, .slice b21e (B.es.length) d21e, .slice b21k (B.ks.length) d21k, .slice b21s (B.ss.length) d21s] 26)))
                  have F22KA : Aside (Cl ((v21.alloc (.cells #[.bool A.leaf, .slice a21e (A.es.length) c21e, .slice a21k (A.ks.length) c21k, .slice a21s (A.ss.length) c21s] 26)).alloc (.cells #[.bool B.leaf, .slice b21e (B.es.length) d21e, .slice b21k (B.ks.length) d21k, .slice b21s (B.ss.length) d21s] 26)) v21.heap.size #[.bool A.leaf, .slice a21e (A.es.length) c21e, .slice a21k (A.ks.length) c21k, .slice a21s (A.ss.length) c21s] 26) := (Cl.new0 _ _ _).alloc _
                  have F23KB : Aside (Cl ((v21.alloc (.cells #[.bool A.leaf, .slice a21e (A.es.length) c21e, .slice a21k (A.ks.length) c21k, .slice a21s (A.ss.length) c21s] 26)).alloc (.cells #[.bool B.leaf, .slice b21e (B.es.length) d21e, .slice b21k (B.ks.length) d21k, .slice b21s (B.ss.length) d21s] 26)) (v21.heap.size + 1) #[.bool B.leaf, .slice b21e (B.es.length) d21e, .slice b21k (B.ks.length) d21k, .slice b21s (B.ss.length) d21s] 26) := Cl.new1 _ _ _ _
                  have F24OA : Aside (NdO w19.heap.size ((v21.alloc (.cells #[.bool A.leaf, .slice a21e (A.es.length) c21e, .slice a21k (A.ks.length) c21k, .slice a21s (A.ss.length) c21s] 26)).alloc (.cells #[.bool B.leaf, .slice b21e (B.es.length) d21e, .slice b21k (B.ks.length) d21k, .slice b21s (B.ss.length) d21s] 26)) (.slice a21e (A.es.length) c21e) (.slice a21k (A.ks.length) c21k) (.slice a21s (A.ss.length) c21s) A) := o21.below (belAlloc _ (belAlloc _ (Below.refl _ _)))
                  have F25OB : Aside (NdO w19.heap.size ((v21.alloc (.cells #[.bool A.leaf, .slice a21e (A.es.length) c21e, .slice a21k (A.ks.length) c21k, .slice a21s (A.ss.length) c21s] 26)).alloc (.cells #[.bool B.leaf, .slice b21e (B.es.length) d21e, .slice b21k (B.ks.length) d21k, .slice b21s (B.ss.length) d21s] 26)) (.slice b21e (B.es.length) d21e) (.slice b21k (B.ks.length) d21k) (.slice b21s (B.ss.length) d21s) B) := p21.below (belAlloc _ (belAlloc _ (Below.refl _ _)))
                  clear q20P0 q20P1 q20P2 q20P3 q20Pl
                  have B26 : Hid (Below w.heap.size w ((v21.alloc (.cells #[.bool A.leaf, .slice a21e (A.es.length) c21e, .slice a21k (A.ks.length) c21k, .slice a21s (A.ss.length) c21s] 26)).alloc (.cells #[.bool B.leaf, .slice b21e (B.es.length) d21e, .slice b21k (B.ks.length) d21k, .slice b21s (B.ss.length) d21s] 26))) := B20.out.trans (g21.mono B20.out.size)
                  have F26P : Aside (Cl ((v21.alloc (.cells #[.bool A.leaf, .slice a21e (A.es.length) c21e, .slice a21k (A.ks.length) c21k, .slice a21s (A.ss.length) c21s] 26)).alloc (.cells #[.bool B.leaf, .slice b21e (B.es.length) d21e, .slice b21k (B.ks.length) d21k, .slice b21s (B.ss.length) d21s] 26)) p #[.bool lf, .slice ae es.length ce, .slice ak ks.length ck, .slice az ss.length cz] 26) := Cl.on F20P.out g21
                  clear F20P
                  have F26N : Aside (NdR ((v21.alloc (.cells #[.bool A.leaf, .slice a21e (A.es.length) c21e, .slice a21k (A.ks.length) c21k, .slice a21s (A.ss.length) c21s] 26)).alloc (.cells #[.bool B.leaf, .slice b21e (B.es.length) d21e, .slice b21k (B.ks.length) d21k, .slice b21s (B.ss.length) d21s] 26)) (.slice ae es.length ce) (.slice ak ks.length ck) (.slice az ss.length cz) ⟨lf, es, ks, ss⟩) := F20N.out.below g21
                  clear F20N
                  clear B20
                  clear g21 h21 o21 p21
                  go_upto_region 21 with fail
                  generalize ((v21.alloc (.cells #[.bool A.leaf, .slice a21e (A.es.length) c21e, .slice a21k (A.ks.length) c21k, .slice a21s (A.ss.length) c21s] 26)).alloc (.cells #[.bool B.leaf, .slice b21e (B.es.length) d21e, .slice b21k (B.ks.length) d21k, .slice b21s (B.ss.length) d21s] 26)) = u21 at *
                  generalize v21.heap.size + 1 = QB at *
                  generalize v21.heap.size = QA at *
                  generalize w19.heap.size = ZA at *
                  refine region_inv 8 (JBk u21 p QA QB lf mid (.agg #[.bool A.leaf, .slice a21e (A.es.length) c21e, .slice a21k (A.ks.length) c21k, .slice a21s (A.ss.length) c21s]) (.agg #[.bool B.leaf, .slice b21e (B.es.length) d21e, .slice b21k (B.ks.length) d21k, .slice b21s (B.ss.length) d21s]) (.agg #[.bool lf, .slice ae es.length ce, .slice ak ks.length ck, .slice az ss.length cz]) es ks ss _ _ _ _ _ _ _ _ _ _ _ _ _ _ _ _ _ _ _ _ _ _ _ _ _ _ _ _ _ _ _ _ _ _ _ _ _ _ _ _ _ _ _ _ _ _ _ _ _ _ _ _ _ _ _ _ _ _ _ _ _ _ _ _ _ _ _ _ _ _ _ _ _ _ _ _ _ _ _ _ _ _ _ _ _ _ _ _ _ _ _ _ _ _ _ _ _ _ _ _ _ _ _ _ _ _ _ _ _ _ _ _ _ _ _ _ _ _ _ _ _ _ _ _ _ _ _ _ _ _ _ _ _ _ _ _ _ _ _ _ _ _ _ _ _ _ _ _ _ _ _) (by kernel_rfl) (by kernel_rfl) (by kernel_rfl) ⟨false, false, false, false, false, false, false, false, false, rfl, rfl, _, _, _, _, _, _, _, _, rfl, (Below.refl _ u21).drew, (fun h => by cases h), (fun h => by cases h), (fun h => by cases h), (fun h => by cases h), (fun h => by cases h), (fun h => by cases h), (fun h => by cases h), (fun h => by cases h)⟩ ?_ ?_ ?_
                  · intro i f a w' hne hl hJ
                    refine JBk.elim hJ (C := fun f a w' => i ∈ Region.ready .any _ f.toArray → wpOp _ _ _ i (fun a' w'' => JBk u21 p QA QB lf mid (.agg #[.bool A.leaf, .slice a21e (A.es.length) c21e, .slice a21k (A.ks.length) c21k, .slice a21s (A.ss.length) c21s]) (.agg #[.bool B.leaf, .slice b21e (B.es.length) d21e, .slice b21k (B.ks.length) d21k, .slice b21s (B.ss.length) d21s]) (.agg #[.bool lf, .slice ae es.length ce, .slice ak ks.length ck, .slice az ss.length cz]) es ks ss _ _ _ _ _ _ _ _ _ _ _ _ _ _ _ _ _ _ _ _ _ _ _ _ _ _ _ _ _ _ _ _ _ _ _ _ _ _ _ _ _ _ _ _ _ _ _ _ _ _ _ _ _ _ _ _ _ _ _ _ _ _ _ _ _ _ _ _ _ _ _ _ _ _ _ _ _ _ _ _ _ _ _ _ _ _ _ _ _ _ _ _ _ _ _ _ _ _ _ _ _ _ _ _ _ _ _ _ _ _ _ _ _ _ _ _ _ _ _ _ _ _ _ _ _ _ _ _ _ _ _ _ _ _ _ _ _ _ _ _ _ _ _ _ _ _ _ _ _ _ _ (f.set i true) a' w'') a w') ?_
                    clear hJ hl f a
                    intro f0 f1 f2 f3 f4 f5 f6 f7 f8 x122 x123 x124 x125 x126 x127 x128 x129 e8 hB h0 h1 h2 h3 h4 h5 h6 h7 hi
                    obtain ⟨hlt, hun, _⟩ := ready_mem hi
                    have hlt' : i < 9 := hlt
                    clear hlt
                    rcases (by omega : i = 0 ∨ i = 1 ∨ i = 2 ∨ i = 3 ∨ i = 4 ∨ i = 5 ∨ i = 6 ∨ i = 7) with rfl | rfl | rfl | rfl | rfl | rfl | rfl | rfl
                    · have un : f0 = false := hun
                      clear hun
                      clear hi hne hlt'
                      obtain ⟨i0, i1, i2, i3⟩ := (F22KA.out.on hB).four
                      refine wpOp_step rfl (fun K hK => ?_)
                      have HK : Shut _ := hK
                      clear hK
                      go_simp
                      refine HK.out _ _ ?_
                      exact ⟨true, f1, f2, f3, f4, f5, f6, f7, f8, rfl, e8, _, _, _, _, _, _, _, _, rfl, hB, (fun _ => rfl), h1, h2, h3, h4, h5, h6, h7⟩
                    · have un : f1 = false := hun
                      clear hun
                      clear hi hne hlt'
                      refine wpOp_step rfl (fun K hK => ?_)
                      have HK : Shut _ := hK
                      clear hK
                      go_simp
                      refine HK.out _ _ ?_
                      exact ⟨f0, true, f2, f3, f4, f5, f6, f7, f8, rfl, e8, _, _, _, _, _, _, _, _, rfl, hB, h0, (fun _ => rfl), h2, h3, h4, h5, h6, h7⟩
                    · have un : f2 = false := hun
                      clear hun
                      clear hi hne hlt'
                      obtain ⟨i0, i1, i2, i3⟩ := (F23KB.out.on hB).four
                      refine wpOp_step rfl (fun K hK => ?_)
                      have HK : Shut _ := hK
                      clear hK
                      go_simp
                      refine HK.out _ _ ?_
                      exact ⟨f0, f1, true, f3, f4, f5, f6, f7, f8, rfl, e8, _, _, _, _, _, _, _, _, rfl, hB, h0, h1, (fun _ => rfl), h3, h4, h5, h6, h7⟩
                    · have un : f3 = false := hun
                      clear hun
                      have d0 : f0 = true := ready_dep 0 hi (by kernel_rfl)
                      have y0 := h0.out d0
                      subst y0
                      have d1 : f1 = true := ready_dep 1 hi (by kernel_rfl)
                      have y1 := h1.out d1
                      subst y1
                      have d2 : f2 = true := ready_dep 2 hi (by kernel_rfl)
                      have y2 := h2.out d2
                      subst y2
                      clear hi hne hlt'
                      refine wpOp_step rfl (fun K hK => ?_)
                      have HK : Shut _ := hK
                      clear hK
                      go_simp
                      refine Calls.mono (by
                              have hh := njoin_any mid A B _ _ _ _ _ _ w' (F24OA.out.r.below hB) (F25OB.out.r.below hB) smA.l smB.l
                              rw [bk.out] at hh
                              exact hh) ?_
                      rintro e w1 ⟨x1, x2, x3, rfl, ow, b1⟩
                      obtain ⟨a1, c1, rfl⟩ := ownShape (n := es.length) ow.e
                      obtain ⟨a2, c2, rfl⟩ := ownShape (n := ks.length) ow.k
                      obtain ⟨a3, c3, rfl⟩ := ownShape (n := ss.length) ow.s
                      refine HK.out _ _ ?_
                      exact ⟨f0, f1, f2, true, f4, f5, f6, f7, f8, rfl, e8, _, _, _, _, _, _, _, _, rfl, belCall b1 hB, h0, h1, h2, (fun _ => ⟨a1, c1, a2, c2, a3, c3, rfl, ow.mono hB.size⟩), (fun d => by have e := (h4.out d).1; rw [un] at e; cases e), h5, h6, h7⟩
                    · have un : f4 = false := hun
                      clear hun
                      have d3 : f3 = true := ready_dep 3 hi (by kernel_rfl)
                      obtain ⟨a3e, c3e, a3k, c3k, a3s, c3s, y3, o3⟩ := h3.out d3
                      subst y3
                      clear hi hne hlt'
                      refine wpOp_step rfl (fun K hK => ?_)
                      have HK : Shut _ := hK
                      clear hK
                      go_simp
                      refine Calls.mono (of_any lf _ _ _ w' ⟨lf, es, ks, ss⟩ o3.r) ?_
                      rintro e w1 ⟨rfl, b1⟩
                      refine HK.out _ _ ?_
                      exact ⟨f0, f1, f2, f3, true, f5, f6, f7, f8, rfl, e8, _, _, _, _, _, _, _, _, rfl, belCall b1 hB, h0, h1, h2, (fun d => let ⟨a1, c1, a2, c2, a3, c3, e, o⟩ := h3.out d; ⟨a1, c1, a2, c2, a3, c3, e, o.below (b1)⟩), (fun _ => ⟨d3, rfl⟩), h5, h6, h7⟩
                    · have un : f5 = false := hun
                      clear hun
                      clear hi hne hlt'
                      obtain ⟨i0, i1, i2, i3⟩ := (F26P.out.on hB).four
                      refine wpOp_step rfl (fun K hK => ?_)
                      have HK : Shut _ := hK
                      clear hK
                      go_simp
                      refine HK.out _ _ ?_
                      exact ⟨f0, f1, f2, f3, f4, true, f6, f7, f8, rfl, e8, _, _, _, _, _, _, _, _, rfl, hB, h0, h1, h2, h3, h4, (fun _ => rfl), h6, h7⟩
                    · have un : f6 = false := hun
                      clear hun
                      have d5 : f5 = true := ready_dep 5 hi (by kernel_rfl)
                      have y5 := h5.out d5
                      subst y5
                      clear hi hne hlt'
                      refine wpOp_step rfl (fun K hK => ?_)
                      have HK : Shut _ := hK
                      clear hK
                      go_simp
                      refine Calls.mono (of_any lf _ _ _ w' ⟨lf, es, ks, ss⟩ (F26N.out.below hB)) ?_
                      rintro e w1 ⟨rfl, b1⟩
                      refine HK.out _ _ ?_
                      exact ⟨f0, f1, f2, f3, f4, f5, true, f7, f8, rfl, e8, _, _, _, _, _, _, _, _, rfl, belCall b1 hB, h0, h1, h2, (fun d => let ⟨a1, c1, a2, c2, a3, c3, e, o⟩ := h3.out d; ⟨a1, c1, a2, c2, a3, c3, e, o.below (b1)⟩), h4, h5, (fun _ => rfl), h7⟩
                    · have un : f7 = false := hun
                      clear hun
                      have d4 : f4 = true := ready_dep 4 hi (by kernel_rfl)
                      obtain ⟨u3, y4⟩ := h4.out d4
                      obtain ⟨a3e, c3e, a3k, c3k, a3s, c3s, y3, o3⟩ := h3.out u3
                      subst y3
                      subst y4
                      have d6 : f6 = true := ready_dep 6 hi (by kernel_rfl)
                      have y6 := h6.out d6
                      subst y6
                      clear hi hne hlt'
                      refine wpOp_step rfl (fun K hK => ?_)
                      have HK : Shut _ := hK
                      clear hK
                      go_simp
                      refine Calls.mono (nsame_any ⟨lf, es, ks, ss⟩ _ _ _ _ _ _ w' o3.r (F26N.out.below hB) sm) ?_
                      rintro e w1 ⟨rfl, b1⟩
                      refine HK.out _ _ ?_
                      exact ⟨f0, f1, f2, f3, f4, f5, f6, true, f8, rfl, e8, _, _, _, _, _, _, _, _, rfl, belCall b1 hB, h0, h1, h2, (fun d => let ⟨a1, c1, a2, c2, a3, c3, e, o⟩ := h3.out d; ⟨a1, c1, a2, c2, a3, c3, e, o.below (b1)⟩), h4, h5, h6, (fun _ => rfl)⟩
                  · intro f a w' hl hJ
                    refine JBk.elim hJ (C := fun f a w' => 8 ∈ Region.ready .any _ f.toArray → wpOp _ _ _ 8 _ a w') ?_
                    clear hJ hl f a
                    intro f0 f1 f2 f3 f4 f5 f6 f7 f8 x122 x123 x124 x125 x126 x127 x128 x129 e8 hB h0 h1 h2 h3 h4 h5 h6 h7 hi
                    have d7 : f7 = true := ready_dep 7 hi (by kernel_rfl)
                    have y7 := h7.out d7
                    subst y7
                    clear hi
                    refine wpOp_step rfl (fun K hK => ?_)
                    have HK : Shut _ := hK
                    clear hK
                    go_simp
                    refine HK.out _ _ ?_
                    have GA : Aside (Cl w' QA #[.bool A.leaf, .slice a21e (A.es.length) c21e, .slice a21k (A.ks.length) c21k, .slice a21s (A.ss.length) c21s] 26) := F22KA.out.on hB
                    have GB : Aside (Cl w' QB #[.bool B.leaf, .slice b21e (B.es.length) d21e, .slice b21k (B.ks.length) d21k, .slice b21s (B.ss.length) d21s] 26) := F23KB.out.on hB
                    have GRA : Aside (NdO ZA w' (.slice a21e (A.es.length) c21e) (.slice a21k (A.ks.length) c21k) (.slice a21s (A.ss.length) c21s) A) := F24OA.out.below hB
                    have GRB : Aside (NdO ZA w' (.slice b21e (B.es.length) d21e) (.slice b21k (B.ks.length) d21k) (.slice b21s (B.ss.length) d21s) B) := F25OB.out.below hB
                    have BQ : Hid (Below w.heap.size w w') := B26.out.trans (hB.mono B26.out.size)
                    clear h0 h1 h2 h3 h4 h5 h6 h7 hB F22KA F23KB F24OA F25OB F26P F26N B26
                    obtain ⟨q26KA0, q26KA1, q26KA2, q26KA3⟩ := GA.out.four
                    have q26KAl := GA.out.lt
                    obtain ⟨q26KB0, q26KB1, q26KB2, q26KB3⟩ := GB.out.four
                    have q26KBl := GB.out.lt
                    have C27 : Hid _ := nright_any A _ _ _ w' GRA.out.r smA
                    rw [rg.out.1] at C27
                    go_wp2_with fail
                    refine Calls.mono C27.out ?_
                    rintro e w27 ⟨rfl, hb27⟩
                    clear C27
                    clear q26KA0 q26KA1 q26KA2 q26KA3 q26KAl q26KB0 q26KB1 q26KB2 q26KB3 q26KBl
                    have B28 : Hid (Below w.heap.size w w27) := BQ.out.trans (hb27.mono BQ.out.size)
                    have F28KA : Aside (Cl w27 QA #[.bool A.leaf, .slice a21e (A.es.length) c21e, .slice a21k (A.ks.length) c21k, .slice a21s (A.ss.length) c21s] 26) := Cl.on GA.out hb27
                    clear GA
                    have F28KB : Aside (Cl w27 (QB) #[.bool B.leaf, .slice b21e (B.es.length) d21e, .slice b21k (B.ks.length) d21k, .slice b21s (B.ss.length) d21s] 26) := Cl.on GB.out hb27
                    clear GB
                    have F28OA : Aside (NdO ZA w27 (.slice a21e (A.es.length) c21e) (.slice a21k (A.ks.length) c21k) (.slice a21s (A.ss.length) c21s) A) := GRA.out.below hb27
                    clear GRA
                    have F28OB : Aside (NdO ZA w27 (.slice b21e (B.es.length) d21e) (.slice b21k (B.ks.length) d21k) (.slice b21s (B.ss.length) d21s) B) := GRB.out.below hb27
                    clear GRB
                    clear BQ
                    clear hb27
                    obtain ⟨q28KA0, q28KA1, q28KA2, q28KA3⟩ := F28KA.out.four
                    have q28KAl := F28KA.out.lt
                    obtain ⟨q28KB0, q28KB1, q28KB2, q28KB3⟩ := F28KB.out.four
                    have q28KBl := F28KB.out.lt
                    have C29 : Hid _ := nright_any B _ _ _ w27 F28OB.out.r smB
                    rw [rg.out.2] at C29
                    go_wp2_with fail
                    refine Calls.mono C29.out ?_
                    rintro e w29 ⟨rfl, hb29⟩
                    clear C29
                    clear q28KA0 q28KA1 q28KA2 q28KA3 q28KAl q28KB0 q28KB1 q28KB2 q28KB3 q28KBl
                    have B30 : Hid (Below w.heap.size w w29) := B28.out.trans (hb29.mono B28.out.size)
                    have F30KA : Aside (Cl w29 QA #[.bool A.leaf, .slice a21e (A.es.length) c21e, .slice a21k (A.ks.length) c21k, .slice a21s (A.ss.length) c21s] 26) := Cl.on F28KA.out hb29
                    clear F28KA
                    have F30KB : Aside (Cl w29 (QB) #[.bool B.leaf, .slice b21e (B.es.length) d21e, .slice b21k (B.ks.length) d21k, .slice b21s (B.ss.length) d21s] 26) := Cl.on F28KB.out hb29
                    clear F28KB
                    have F30OA : Aside (NdO ZA w29 (.slice a21e (A.es.length) c21e) (.slice a21k (A.ks.length) c21k) (.slice a21s (A.ss.length) c21s) A) := F28OA.out.below hb29
                    clear F28OA
                    have F30OB : Aside (NdO ZA w29 (.slice b21e (B.es.length) d21e) (.slice b21k (B.ks.length) d21k) (.slice b21s (B.ss.length) d21s) B) := F28OB.out.below hb29
                    clear F28OB
                    clear B28
                    clear hb29
                    go_wp2
                    go_ret
                    exact ⟨rfl, B30.out⟩
                  · rintro f a w' ⟨f0, f1, f2, f3, f4, f5, f6, f7, f8, rfl, rfl, _⟩
                    rfl
                ·
                  clear tz
                  have C21 : Hid _ := split_any ⟨lf, es, ks, ss⟩ _ _ _ w19 F20N.out sm
                  rw [HA.out] at C21
                  rw [HM.out] at C21
                  rw [HBn.out] at C21
                  go_wp2_with fail
                  refine Calls.mono C21.out ?_
                  rintro e v21 ⟨x21e, x21k, x21s, y21e, y21k, y21s, rfl, o21, p21, h21⟩
                  clear C21
                  obtain ⟨a21e, c21e, rfl⟩ := ownShape (n := A.es.length) o21.e
                  obtain ⟨a21k, c21k, rfl⟩ := ownShape (n := A.ks.length) o21.k
                  obtain ⟨a21s, c21s, rfl⟩ := ownShape (n := A.ss.length) o21.s
                  obtain ⟨b21e, d21e, rfl⟩ := ownShape (n := B.es.length) p21.e
                  obtain ⟨b21k, d21k, rfl⟩ := ownShape (n := B.ks.length) p21.k
                  obtain ⟨b21s, d21s, rfl⟩ := ownShape (n := B.ss.length) p21.s
                  have g21 := (belAlloc _ (belAlloc _ h21) : Below w19.heap.size w19 ((v21.alloc (.cells #[.bool A.leaf, .slice a21e (A.es.length) c21e, .slice a21k (A.ks.length) c21k, .slice a21s (A.ss.length) c21s] 26)).alloc (.cells #[.bool B.leaf, .slice b21e (B.es.length) d21e, .slice b21k (B.ks.length) d21k, .slice b21s (B.ss.length) d21s] 26)))
                  have F22KA : Aside (Cl ((v21.alloc (.cells #[.bool A.leaf, .slice a21e (A.es.length) c21e, .slice a21k (A.ks.length) c21k, .slice a21s (A.ss.length) c21s] 26)).alloc (.cells #[.bool B.leaf, .slice b21e (B.es.length) d21e, .slice b21k (B.ks.length) d21k, .slice b21s (B.ss.length) d21s] 26)) v21.heap.size #[.bool A.leaf, .slice a21e (A.es.length) c21e, .slice a21k (A.ks.length) c21k, .slice a21s (A.ss.length) c21s] 26) := (Cl.new0 _ _ _).alloc _
                  have F23KB : Aside (Cl ((v21.alloc (.cells #[.bool A.leaf, .slice a21e (A.es.length) c21e, .slice a21k (A.ks.length) c21k, .slice a21s (A.ss.length) c21s] 26)).alloc (.cells #[.bool B.leaf, .slice b21e (B.es.length) d21e, .slice b21k (B.ks.length) d21k, .slice b21s (B.ss.length) d21s] 26)) (v21.heap.size + 1) #[.bool B.leaf, .slice b21e (B.es.length) d21e, .slice b21k (B.ks.length) d21k, .slice b21s (B.ss.length) d21s] 26) := Cl.new1 _ _ _ _
                  have F24OA : Aside (NdO w19.heap.size ((v21.alloc (.cells #[.bool A.leaf, .slice a21e (A.es.length) c21e, .slice a21k (A.ks.length) c21k, .slice a21s (A.ss.length) c21s] 26)).alloc (.cells #[.bool B.leaf, .slice b21e (B.es.length) d21e, .slice b21k (B.ks.length) d21k, .slice b21s (B.ss.length) d21s] 26)) (.slice a21e (A.es.length) c21e) (.slice a21k (A.ks.length) c21k) (.slice a21s (A.ss.length) c21s) A) := o21.below (belAlloc _ (belAlloc _ (Below.refl _ _)))
                  have F25OB : Aside (NdO w19.heap.size ((v21.alloc (.cells #[.bool A.leaf, .slice a21e (A.es.length) c21e, .slice a21k (A.ks.length) c21k, .slice a21s (A.ss.length) c21s] 26)).alloc (.cells #[.bool B.leaf, .slice b21e (B.es.length) d21e, .slice b21k (B.ks.length) d21k, .slice b21s (B.ss.length) d21s] 26)) (.slice b21e (B.es.length) d21e) (.slice b21k (B.ks.length) d21k) (.slice b21s (B.ss.length) d21s) B) := p21.below (belAlloc _ (belAlloc _ (Below.refl _ _)))
                  clear q20P0 q20P1 q20P2 q20P3 q20Pl
                  have B26 : Hid (Below w.heap.size w ((v21.alloc (.cells #[.bool A.leaf, .slice a21e (A.es.length) c21e, .slice a21k (A.ks.length) c21k, .slice a21s (A.ss.length) c21s] 26)).alloc (.cells #[.bool B.leaf, .slice b21e (B.es.length) d21e, .slice b21k (B.ks.length) d21k, .slice b21s (B.ss.length) d21s] 26))) := B20.out.trans (g21.mono B20.out.size)
                  have F26P : Aside (Cl ((v21.alloc (.cells #[.bool A.leaf, .slice a21e (A.es.length) c21e, .slice a21k (A.ks.length) c21k, .slice a21s (A.ss.length) c21s] 26)).alloc (.cells #[.bool B.leaf, .slice b21e (B.es.length) d21e, .slice b21k (B.ks.length) d21k, .slice b21s (B.ss.length) d21s] 26)) p #[.bool lf, .slice ae es.length ce, .slice ak ks.length ck, .slice az ss.length cz] 26) := Cl.on F20P.out g21
                  clear F20P
                  have F26N : Aside (NdR ((v21.alloc (.cells #[.bool A.leaf, .slice a21e (A.es.length) c21e, .slice a21k (A.ks.length) c21k, .slice a21s (A.ss.length) c21s] 26)).alloc (.cells #[.bool B.leaf, .slice b21e (B.es.length) d21e, .slice b21k (B.ks.length) d21k, .slice b21s (B.ss.length) d21s] 26)) (.slice ae es.length ce) (.slice ak ks.length ck) (.slice az ss.length cz) ⟨lf, es, ks, ss⟩) := F20N.out.below g21
                  clear F20N
                  clear B20
                  clear g21 h21 o21 p21
                  go_upto_region 21 with fail
                  generalize ((v21.alloc (.cells #[.bool A.leaf, .slice a21e (A.es.length) c21e, .slice a21k (A.ks.length) c21k, .slice a21s (A.ss.length) c21s] 26)).alloc (.cells #[.bool B.leaf, .slice b21e (B.es.length) d21e, .slice b21k (B.ks.length) d21k, .slice b21s (B.ss.length) d21s] 26)) = u21 at *
                  generalize v21.heap.size + 1 = QB at *
                  generalize v21.heap.size = QA at *
                  generalize w19.heap.size = ZA at *
                  refine region_inv 8 (JBk u21 p QA QB lf mid (.agg #[.bool A.leaf, .slice a21e (A.es.length) c21e, .slice a21k (A.ks.length) c21k, .slice a21s (A.ss.length) c21s]) (.agg #[.bool B.leaf, .slice b21e (B.es.length) d21e, .slice b21k (B.ks.length) d21k, .slice b21s (B.ss.length) d21s]) (.agg #[.bool lf, .slice ae es.length ce, .slice ak ks.length ck, .slice az ss.length cz]) es ks ss _ _ _ _ _ _ _ _ _ _ _ _ _ _ _ _ _ _ _ _ _ _ _ _ _ _ _ _ _ _ _ _ _ _ _ _ _ _ _ _ _ _ _ _ _ _ _ _ _ _ _ _ _ _ _ _ _ _ _ _ _ _ _ _ _ _ _ _ _ _ _ _ _ _ _ _ _ _ _ _ _ _ _ _ _ _ _ _ _ _ _ _ _ _ _ _ _ _ _ _ _ _ _ _ _ _ _ _ _ _ _ _ _ _ _ _ _ _ _ _ _ _ _ _ _ _ _ _ _ _ _ _ _ _ _ _ _ _ _ _ _ _ _ _ _ _ _ _ _ _ _) (by kernel_rfl) (by kernel_rfl) (by kernel_rfl) ⟨false, false, false, false, false, false, false, false, false, rfl, rfl, _, _, _, _, _, _, _, _, rfl, (Below.refl _ u21).drew, (fun h => by cases h), (fun h => by cases h), (fun h => by cases h), (fun h => by cases h), (fun h => by cases h), (fun h => by cases h), (fun h => by cases h), (fun h => by cases h)⟩ ?_ ?_ ?_
                  · intro i f a w' hne hl hJ
                    refine JBk.elim hJ (C := fun f a w' => i ∈ Region.ready .any _ f.toArray → wpOp _ _ _ i (fun a' w'' => JBk u21 p QA QB lf mid (.agg #[.bool A.leaf, .slice a21e (A.es.length) c21e, .slice a21k (A.ks.length) c21k, .slice a21s (A.ss.length) c21s]) (.agg #[.bool B.leaf, .slice b21e (B.es.length) d21e, .slice b21k (B.ks.length) d21k, .slice b21s (B.ss.length) d21s]) (.agg #[.bool lf, .slice ae es.length ce, .slice ak ks.length ck, .slice az ss.length cz]) es ks ss _ _ _ _ _ _ _ _ _ _ _ _ _ _ _ _ _ _ _ _ _ _ _ _ _ _ _ _ _ _ _ _ _ _ _ _ _ _ _ _ _ _ _ _ _ _ _ _ _ _ _ _ _ _ _ _ _ _ _ _ _ _ _ _ _ _ _ _ _ _ _ _ _ _ _ _ _ _ _ _ _ _ _ _ _ _ _ _ _ _ _ _ _ _ _ _ _ _ _ _ _ _ _ _ _ _ _ _ _ _ _ _ _ _ _ _ _ _ _ _ _ _ _ _ _ _ _ _ _ _ _ _ _ _ _ _ _ _ _ _ _ _ _ _ _ _ _ _ _ _ _ (f.set i true) a' w'') a w') ?_
                    clear hJ hl f a
                    intro f0 f1 f2 f3 f4 f5 f6 f7 f8 x122 x123 x124 x125 x126 x127 x128 x129 e8 hB h0 h1 h2 h3 h4 h5 h6 h7 hi
                    obtain ⟨hlt, hun, _⟩ := ready_mem hi
                    have hlt' : i < 9 := hlt
                    clear hlt
                    rcases (by omega : i = 0 ∨ i = 1 ∨ i = 2 ∨ i = 3 ∨ i = 4 ∨ i = 5 ∨ i = 6 ∨ i = 7) with rfl | rfl | rfl | rfl | rfl | rfl | rfl | rfl
                    · have un : f0 = false := hun
                      clear hun
                      clear hi hne hlt'
                      obtain ⟨i0, i1, i2, i3⟩ := (F22KA.out.on hB).four
                      refine wpOp_step rfl (fun K hK => ?_)
                      have HK : Shut _ := hK
                      clear hK
                      go_simp
                      refine HK.out _ _ ?_
                      exact ⟨true, f1, f2, f3, f4, f5, f6, f7, f8, rfl, e8, _, _, _, _, _, _, _, _, rfl, hB, (fun _ => rfl), h1, h2, h3, h4, h5, h6, h7⟩
                    · have un : f1 = false := hun
                      clear hun
                      clear hi hne hlt'
                      refine wpOp_step rfl (fun K hK => ?_)
                      have HK : Shut _ := hK
                      clear hK
                      go_simp
                      refine HK.out _ _ ?_
                      exact ⟨f0, true, f2, f3, f4, f5, f6, f7, f8, rfl, e8, _, _, _, _, _, _, _, _, rfl, hB, h0, (fun _ => rfl), h2, h3, h4, h5, h6, h7⟩
                    · have un : f2 = false := hun
                      clear hun
                      clear hi hne hlt'
                      obtain ⟨i0, i1, i2, i3⟩ := (F23KB.out.on hB).four
                      refine wpOp_step rfl (fun K hK => ?_)
                      have HK : Shut _ := hK
                      clear hK
                      go_simp
                      refine HK.out _ _ ?_
                      exact ⟨f0, f1, true, f3, f4, f5, f6, f7, f8, rfl, e8, _, _, _, _, _, _, _, _, rfl, hB, h0, h1, (fun _ => rfl), h3, h4, h5, h6, h7⟩
                    · have un : f3 = false := hun
                      clear hun
                      have d0 : f0 = true := ready_dep 0 hi (by kernel_rfl)
                      have y0 := h0.out d0
                      subst y0
                      have d1 : f1 = true := ready_dep 1 hi (by kernel_rfl)
                      have y1 := h1.out d1
                      subst y1
                      have d2 : f2 = true := ready_dep 2 hi (by kernel_rfl)
                      have y2 := h2.out d2
                      subst y2
                      clear hi hne hlt'
                      refine wpOp_step rfl (fun K hK => ?_)
                      have HK : Shut _ := hK
                      clear hK
                      go_simp
                      refine Calls.mono (by
                              have hh := njoin_any mid A B _ _ _ _ _ _ w' (F24OA.out.r.below hB) (F25OB.out.r.below hB) smA.l smB.l
                              rw [bk.out] at hh
                              exact hh) ?_
                      rintro e w1 ⟨x1, x2, x3, rfl, ow, b1⟩
                      obtain ⟨a1, c1, rfl⟩ := ownShape (n := es.length) ow.e
                      obtain ⟨a2, c2, rfl⟩ := ownShape (n := ks.length) ow.k
                      obtain ⟨a3, c3, rfl⟩ := ownShape (n := ss.length) ow.s
                      refine HK.out _ _ ?_
                      exact ⟨f0, f1, f2, true, f4, f5, f6, f7, f8, rfl, e8, _, _, _, _, _, _, _, _, rfl, belCall b1 hB, h0, h1, h2, (fun _ => ⟨a1, c1, a2, c2, a3, c3, rfl, ow.mono hB.size⟩), (fun d => by have e := (h4.out d).1; rw [un] at e; cases e), h5, h6, h7⟩
                    · have un : f4 = false := hun
                      clear hun
                      have d3 : f3 = true := ready_dep 3 hi (by kernel_rfl)
                      obtain ⟨a3e, c3e, a3k, c3k, a3s, c3s, y3, o3⟩ := h3.out d3
                      subst y3
                      clear hi hne hlt'
                      refine wpOp_step rfl (fun K hK => ?_)
                      have HK : Shut _ := hK
                      clear hK
                      go_simp
                      refine Calls.mono (of_any lf _ _ _ w' ⟨lf, es, ks, ss⟩ o3.r) ?_
                      rintro e w1 ⟨rfl, b1⟩
                      refine HK.out _ _ ?_
                      exact ⟨f0, f1, f2, f3, true, f5, f6, f7, f8, rfl, e8, _, _, _, _, _, _, _, _, rfl, belCall b1 hB, h0, h1, h2, (fun d => let ⟨a1, c1, a2, c2, a3, c3, e, o⟩ := h3.out d; ⟨a1, c1, a2, c2, a3, c3, e, o.below (b1)⟩), (fun _ => ⟨d3, rfl⟩), h5, h6, h7⟩
                    · have un : f5 = false := hun
                      clear hun
                      clear hi hne hlt'
                      obtain ⟨i0, i1, i2, i3⟩ := (F26P.out.on hB).four
                      refine wpOp_step rfl (fun K hK => ?_)
                      have HK : Shut _ := hK
                      clear hK
                      go_simp
                      refine HK.out _ _ ?_
                      exact ⟨f0, f1, f2, f3, f4, true, f6, f7, f8, rfl, e8, _, _, _, _, _, _, _, _, rfl, hB, h0, h1, h2, h3, h4, (fun _ => rfl), h6, h7⟩
                    · have un : f6 = false := hun
                      clear hun
                      have d5 : f5 = true := ready_dep 5 hi (by kernel_rfl)
                      have y5 := h5.out d5
                      subst y5
                      clear hi hne hlt'
                      refine wpOp_step rfl (fun K hK => ?_)
                      have HK : Shut _ := hK
                      clear hK
                      go_simp
                      refine Calls.mono (of_any lf _ _ _ w' ⟨lf, es, ks, ss⟩ (F26N.out.below hB)) ?_
                      rintro e w1 ⟨rfl, b1⟩
                      refine HK.out _ _ ?_
                      exact ⟨f0, f1, f2, f3, f4, f5, true, f7, f8, rfl, e8, _, _, _, _, _, _, _, _, rfl, belCall b1 hB, h0, h1, h2, (fun d => let ⟨a1, c1, a2, c2, a3, c3, e, o⟩ := h3.out d; ⟨a1, c1, a2, c2, a3, c3, e, o.below (b1)⟩), h4, h5, (fun _ => rfl), h7⟩
                    · have un : f7 = false := hun
                      clear hun
                      have d4 : f4 = true := ready_dep 4 hi (by kernel_rfl)
                      obtain ⟨u3, y4⟩ := h4.out d4
                      obtain ⟨a3e, c3e, a3k, c3k, a3s, c3s, y3, o3⟩ := h3.out u3
                      subst y3
                      subst y4
                      have d6 : f6 = true := ready_dep 6 hi (by kernel_rfl)
                      have y6 := h6.out d6
                      subst y6
                      clear hi hne hlt'
                      refine wpOp_step rfl (fun K hK => ?_)
                      have HK : Shut _ := hK
                      clear hK
                      go_simp
                      refine Calls.mono (nsame_any ⟨lf, es, ks, ss⟩ _ _ _ _ _ _ w' o3.r (F26N.out.below hB) sm) ?_
                      rintro e w1 ⟨rfl, b1⟩
                      refine HK.out _ _ ?_
                      exact ⟨f0, f1, f2, f3, f4, f5, f6, true, f8, rfl, e8, _, _, _, _, _, _, _, _, rfl, belCall b1 hB, h0, h1, h2, (fun d => let ⟨a1, c1, a2, c2, a3, c3, e, o⟩ := h3.out d; ⟨a1, c1, a2, c2, a3, c3, e, o.below (b1)⟩), h4, h5, h6, (fun _ => rfl)⟩
                  · intro f a w' hl hJ
                    refine JBk.elim hJ (C := fun f a w' => 8 ∈ Region.ready .any _ f.toArray → wpOp _ _ _ 8 _ a w') ?_
                    clear hJ hl f a
                    intro f0 f1 f2 f3 f4 f5 f6 f7 f8 x122 x123 x124 x125 x126 x127 x128 x129 e8 hB h0 h1 h2 h3 h4 h5 h6 h7 hi
                    have d7 : f7 = true := ready_dep 7 hi (by kernel_rfl)
                    have y7 := h7.out d7
                    subst y7
                    clear hi
                    refine wpOp_step rfl (fun K hK => ?_)
                    have HK : Shut _ := hK
                    clear hK
                    go_simp
                    refine HK.out _ _ ?_
                    have GA : Aside (Cl w' QA #[.bool A.leaf, .slice a21e (A.es.length) c21e, .slice a21k (A.ks.length) c21k, .slice a21s (A.ss.length) c21s] 26) := F22KA.out.on hB
                    have GB : Aside (Cl w' QB #[.bool B.leaf, .slice b21e (B.es.length) d21e, .slice b21k (B.ks.length) d21k, .slice b21s (B.ss.length) d21s] 26) := F23KB.out.on hB
                    have GRA : Aside (NdO ZA w' (.slice a21e (A.es.length) c21e) (.slice a21k (A.ks.length) c21k) (.slice a21s (A.ss.length) c21s) A) := F24OA.out.below hB
                    have GRB : Aside (NdO ZA w' (.slice b21e (B.es.length) d21e) (.slice b21k (B.ks.length) d21k) (.slice b21s (B.ss.length) d21s) B) := F25OB.out.below hB
                    have BQ : Hid (Below w.heap.size w w') := B26.out.trans (hB.mono B26.out.size)
                    clear h0 h1 h2 h3 h4 h5 h6 h7 hB F22KA F23KB F24OA F25OB F26P F26N B26
                    obtain ⟨q26KA0, q26KA1, q26KA2, q26KA3⟩ := GA.out.four
                    have q26KAl := GA.out.lt
                    obtain ⟨q26KB0, q26KB1, q26KB2, q26KB3⟩ := GB.out.four
                    have q26KBl := GB.out.lt
                    have C27 : Hid _ := nright_any A _ _ _ w' GRA.out.r smA
                    rw [rg.out.1] at C27
                    go_wp2_with fail
                    refine Calls.mono C27.out ?_
                    rintro e w27 ⟨rfl, hb27⟩
                    clear C27
                    clear q26KA0 q26KA1 q26KA2 q26KA3 q26KAl q26KB0 q26KB1 q26KB2 q26KB3 q26KBl
                    have B28 : Hid (Below w.heap.size w w27) := BQ.out.trans (hb27.mono BQ.out.size)
                    have F28KA : Aside (Cl w27 QA #[.bool A.leaf, .slice a21e (A.es.length) c21e, .slice a21k (A.ks.length) c21k, .slice a21s (A.ss.length) c21s] 26) := Cl.on GA.out hb27
                    clear GA
                    have F28KB : Aside (Cl w27 (QB) #[.bool B.leaf, .slice b21e (B.es.length) d21e, .slice b21k (B.ks.length) d21k, .slice b21s (B.ss.length) d21s] 26) := Cl.on GB.out hb27
                    clear GB
                    have F28OA : Aside (NdO ZA w27 (.slice a21e (A.es.length) c21e) (.slice a21k (A.ks.length) c21k) (.slice a21s (A.ss.length) c21s) A) := GRA.out.below hb27
                    clear GRA
                    have F28OB : Aside (NdO ZA w27 (.slice b21e (B.es.length) d21e) (.slice b21k (B.ks.length) d21k) (.slice b21s (B.ss.length) d21s) B) := GRB.out.below hb27
                    clear GRB
                    clear BQ
                    clear hb27
                    obtain ⟨q28KA0, q28KA1, q28KA2, q28KA3⟩ := F28KA.out.four
                    have q28KAl := F28KA.out.lt
                    obtain ⟨q28KB0, q28KB1, q28KB2, q28KB3⟩ := F28KB.out.four
                    have q28KBl := F28KB.out.lt
                    have C29 : Hid _ := nright_any B _ _ _ w27 F28OB.out.r smB
                    rw [rg.out.2] at C29
                    go_wp2_with fail
                    refine Calls.mono C29.out ?_
                    rintro e w29 ⟨rfl, hb29⟩
                    clear C29
                    clear q28KA0 q28KA1 q28KA2 q28KA3 q28KAl q28KB0 q28KB1 q28KB2 q28KB3 q28KBl
                    have B30 : Hid (Below w.heap.size w w29) := B28.out.trans (hb29.mono B28.out.size)
                    have F30KA : Aside (Cl w29 QA #[.bool A.leaf, .slice a21e (A.es.length) c21e, .slice a21k (A.ks.length) c21k, .slice a21s (A.ss.length) c21s] 26) := Cl.on F28KA.out hb29
                    clear F28KA
                    have F30KB : Aside (Cl w29 (QB) #[.bool B.leaf, .slice b21e (B.es.length) d21e, .slice b21k (B.ks.length) d21k, .slice b21s (B.ss.length) d21s] 26) := Cl.on F28KB.out hb29
                    clear F28KB
                    have F30OA : Aside (NdO ZA w29 (.slice a21e (A.es.length) c21e) (.slice a21k (A.ks.length) c21k) (.slice a21s (A.ss.length) c21s) A) := F28OA.out.below hb29
                    clear F28OA
                    have F30OB : Aside (NdO ZA w29 (.slice b21e (B.es.length) d21e) (.slice b21k (B.ks.length) d21k) (.slice b21s (B.ss.length) d21s) B) := F28OB.out.below hb29
                    clear F28OB
                    clear B28
                    clear hb29
                    go_wp2
                    go_ret
                    exact ⟨rfl, B30.out⟩
                  · rintro f a w' ⟨f0, f1, f2, f3, f4, f5, f6, f7, f8, rfl, rfl, _⟩
                    rfl
          | some dn =>
            obtain ⟨d1, d2⟩ := deR_some hd
            obtain ⟨x1, x2, x3, x4⟩ := deN_some hd
            have sd := sm_fits x1 x2
            obtain ⟨y1, y2, y3⟩ := en_yes x1 x2
            have y4 : enS dn = body := by rw [y2, x3]
            have y5 : enK dn = kind := by rw [y1, x4]
            have y6 : fiN dn = true := by unfold fiN; rw [x1]; simp [x2]
            have D1 : Hid _ := d1
            have D2 : Hid _ := d2
            have Y3 : Hid _ := y3
            have Y4 : Hid _ := y4
            have Y5 : Hid _ := y5
            have Y6 : Hid _ := y6
            clear d1 d2 x1 x2 x3 x4 y1 y2 y3 y4 y5 y6 hd
            have C15 : Hid _ := ndecode_is kind body w13 HBm.out dn true D1.out D2.out 0 rfl
            go_wp2_with fail
            refine Calls.mono C15.out ?_
            rintro e v15 ⟨x15e, x15k, x15s, rfl, o15, h15⟩
            clear C15
            obtain ⟨a15e, c15e, rfl, _⟩ := rowShape o15.r.e
            obtain ⟨a15k, c15k, rfl, _⟩ := rowShape o15.r.k
            obtain ⟨a15s, c15s, rfl, _⟩ := rowShape o15.r.s
            have g15 := (belAlloc _ h15 : Below w13.heap.size w13 (v15.alloc (.cells #[.bool dn.leaf, .slice a15e (dn.es.length) c15e, .slice a15k (dn.ks.length) c15k, .slice a15s (dn.ss.length) c15s] 26)))
            have F16KD : Aside (Cl (v15.alloc (.cells #[.bool dn.leaf, .slice a15e (dn.es.length) c15e, .slice a15k (dn.ks.length) c15k, .slice a15s (dn.ss.length) c15s] 26)) v15.heap.size #[.bool dn.leaf, .slice a15e (dn.es.length) c15e, .slice a15k (dn.ks.length) c15k, .slice a15s (dn.ss.length) c15s] 26) := Cl.new _ _ _
            have F17RD : Aside (NdR (v15.alloc (.cells #[.bool dn.leaf, .slice a15e (dn.es.length) c15e, .slice a15k (dn.ks.length) c15k, .slice a15s (dn.ss.length) c15s] 26)) (.slice a15e (dn.es.length) c15e) (.slice a15k (dn.ks.length) c15k) (.slice a15s (dn.ss.length) c15s) dn) := o15.r.below (belAlloc _ (Below.refl _ _))
            have B18 : Hid (Below w.heap.size w (v15.alloc (.cells #[.bool dn.leaf, .slice a15e (dn.es.length) c15e, .slice a15k (dn.ks.length) c15k, .slice a15s (dn.ss.length) c15s] 26))) := B14.out.trans (g15.mono B14.out.size)
            have F18P : Aside (Cl (v15.alloc (.cells #[.bool dn.leaf, .slice a15e (dn.es.length) c15e, .slice a15k (dn.ks.length) c15k, .slice a15s (dn.ss.length) c15s] 26)) p #[.bool lf, .slice ae es.length ce, .slice ak ks.length ck, .slice az ss.length cz] 26) := Cl.on F14P.out g15
            clear F14P
            have F18N : Aside (NdR (v15.alloc (.cells #[.bool dn.leaf, .slice a15e (dn.es.length) c15e, .slice a15k (dn.ks.length) c15k, .slice a15s (dn.ss.length) c15s] 26)) (.slice ae es.length ce) (.slice ak ks.length ck) (.slice az ss.length cz) ⟨lf, es, ks, ss⟩) := F14N.out.below g15
            clear F14N
            clear B14
            clear g15 h15 o15
            go_upto_region 15 with fail
            generalize (v15.alloc (.cells #[.bool dn.leaf, .slice a15e (dn.es.length) c15e, .slice a15k (dn.ks.length) c15k, .slice a15s (dn.ss.length) c15s] 26)) = u15 at *
            generalize v15.heap.size = QD at *
            obtain ⟨q18KD0, q18KD1, q18KD2, q18KD3⟩ := F16KD.out.four
            have q18KDl := F16KD.out.lt
            have C19 : Hid _ := nencode_any dn _ _ _ u15 F17RD.out sd
            rw [Y5.out] at C19
            rw [Y4.out] at C19
            rw [Y3.out] at C19
            go_wp2_with fail
            refine Calls.mono C19.out ?_
            rintro e w19 ⟨rfl, hb19⟩
            clear C19
            clear q18KD0 q18KD1 q18KD2 q18KD3 q18KDl
            have B20 : Hid (Below w.heap.size w w19) := B18.out.trans (hb19.mono B18.out.size)
            have F20P : Aside (Cl w19 p #[.bool lf, .slice ae es.length ce, .slice ak ks.length ck, .slice az ss.length cz] 26) := Cl.on F18P.out hb19
            clear F18P
            have F20N : Aside (NdR w19 (.slice ae es.length ce) (.slice ak ks.length ck) (.slice az ss.length cz) ⟨lf, es, ks, ss⟩) := F18N.out.below hb19
            clear F18N
            have F20KD : Aside (Cl w19 QD #[.bool dn.leaf, .slice a15e (dn.es.length) c15e, .slice a15k (dn.ks.length) c15k, .slice a15s (dn.ss.length) c15s] 26) := Cl.on F16KD.out hb19
            clear F16KD
            have F20RD : Aside (NdR w19 (.slice a15e (dn.es.length) c15e) (.slice a15k (dn.ks.length) c15k) (.slice a15s (dn.ss.length) c15s) dn) := F17RD.out.below hb19
            clear F17RD
            clear B18
            clear hb19
            obtain ⟨q20KD0, q20KD1, q20KD2, q20KD3⟩ := F20KD.out.four
            have q20KDl := F20KD.out.lt
            have C21 : Hid _ := fits_any dn _ _ _ w19 F20RD.out sd
            rw [Y6.out] at C21
            go_wp2_with fail
            refine Calls.mono C21.out ?_
            rintro e w21 ⟨rfl, hb21⟩
            clear C21
            clear q20KD0 q20KD1 q20KD2 q20KD3 q20KDl
            have B22 : Hid (Below w.heap.size w w21) := B20.out.trans (hb21.mono B20.out.size)
            have F22P : Aside (Cl w21 p #[.bool lf, .slice ae es.length ce, .slice ak ks.length ck, .slice az ss.length cz] 26) := Cl.on F20P.out hb21
            clear F20P
            have F22N : Aside (NdR w21 (.slice ae es.length ce) (.slice ak ks.length ck) (.slice az ss.length cz) ⟨lf, es, ks, ss⟩) := F20N.out.below hb21
            clear F20N
            have F22KD : Aside (Cl w21 QD #[.bool dn.leaf, .slice a15e (dn.es.length) c15e, .slice a15k (dn.ks.length) c15k, .slice a15s (dn.ss.length) c15s] 26) := Cl.on F20KD.out hb21
            clear F20KD
            have F22RD : Aside (NdR w21 (.slice a15e (dn.es.length) c15e) (.slice a15k (dn.ks.length) c15k) (.slice a15s (dn.ss.length) c15s) dn) := F20RD.out.below hb21
            clear F20RD
            clear B20
            clear hb21
            cases hr3 : rtN ⟨lf, es, ks, ss⟩ with
            | false =>
              obtain ⟨q22P0, q22P1, q22P2, q22P3⟩ := F22P.out.four
              have q22Pl := F22P.out.lt
              have C23 : Hid _ := nright_any ⟨lf, es, ks, ss⟩ _ _ _ w21 F22N.out sm
              rw [hr3] at C23
              go_wp2_with fail
              refine Calls.mono C23.out ?_
              rintro e w23 ⟨rfl, hb23⟩
              clear C23
              clear q22P0 q22P1 q22P2 q22P3 q22Pl
              have B24 : Hid (Below w.heap.size w w23) := B22.out.trans (hb23.mono B22.out.size)
              have F24P : Aside (Cl w23 p #[.bool lf, .slice ae es.length ce, .slice ak ks.length ck, .slice az ss.length cz] 26) := Cl.on F22P.out hb23
              clear F22P
              have F24N : Aside (NdR w23 (.slice ae es.length ce) (.slice ak ks.length ck) (.slice az ss.length cz) ⟨lf, es, ks, ss⟩) := F22N.out.below hb23
              clear F22N
              clear B22
              clear hb23
              clear hr3
              go_wp2
              go_ret
              exact ⟨rfl, B24.out⟩
            | true =>
              obtain ⟨q22P0, q22P1, q22P2, q22P3⟩ := F22P.out.four
              have q22Pl := F22P.out.lt
              have C23 : Hid _ := nright_any ⟨lf, es, ks, ss⟩ _ _ _ w21 F22N.out sm
              rw [hr3] at C23
              go_wp2_with fail
              refine Calls.mono C23.out ?_
              rintro e w23 ⟨rfl, hb23⟩
              clear C23
              clear q22P0 q22P1 q22P2 q22P3 q22Pl
              have B24 : Hid (Below w.heap.size w w23) := B22.out.trans (hb23.mono B22.out.size)
              have F24P : Aside (Cl w23 p #[.bool lf, .slice ae es.length ce, .slice ak ks.length ck, .slice az ss.length cz] 26) := Cl.on F22P.out hb23
              clear F22P
              have F24N : Aside (NdR w23 (.slice ae es.length ce) (.slice ak ks.length ck) (.slice az ss.length cz) ⟨lf, es, ks, ss⟩) := F22N.out.below hb23
              clear F22N
              clear B22
              clear hb23
              obtain ⟨q24P0, q24P1, q24P2, q24P3⟩ := F24P.out.four
              have q24Pl := F24P.out.lt
              have HR : Hid _ := hr3
              clear hr3
              by_cases t1 : es.length < 2 ∧ ks.length < 2
              ·
                have t2 : (es.length : Int) < 2 := by omega
                have t3 : (ks.length : Int) < 2 := by omega
                go_wp2
                go_ret
                exact ⟨rfl, B24.out⟩
              ·
                have en : enN ⟨lf, es, ks, ss⟩ = true := by unfold enN; rw [HR.out]; simp; omega
                have bk : Hid _ := sp_back en
                have rg : Hid _ := sp_right en
                have fu := sp_full en
                have smA := spA_sm sm (n := _)
                have smB := spB_sm sm (n := _)
                have lvs := sp_leaf ⟨lf, es, ks, ss⟩
                have hA : sA ⟨lf, es, ks, ss⟩ = spA ⟨lf, es, ks, ss⟩ := by unfold sA; rw [if_pos en]
                have hM : sM ⟨lf, es, ks, ss⟩ = spM ⟨lf, es, ks, ss⟩ := by unfold sM; rw [if_pos en]
                have hB : sB ⟨lf, es, ks, ss⟩ = spB ⟨lf, es, ks, ss⟩ := by unfold sB; rw [if_pos en]
                obtain ⟨A, eA⟩ : ∃ x, spA ⟨lf, es, ks, ss⟩ = x := ⟨_, rfl⟩
                obtain ⟨mid, eM⟩ : ∃ x, spM ⟨lf, es, ks, ss⟩ = x := ⟨_, rfl⟩
                obtain ⟨B, eB⟩ : ∃ x, spB ⟨lf, es, ks, ss⟩ = x := ⟨_, rfl⟩
                rw [eA] at hA bk rg fu smA lvs
                rw [eB] at hB bk rg fu smB lvs
                rw [eM] at hM bk
                have HA : Hid _ := hA
                have HM : Hid _ := hM
                have HBn : Hid _ := hB
                obtain ⟨f1, f2⟩ := fu
                have f1z : (0 : Int) < (A.es.length : Int) + (A.ks.length : Int) := by omega
                have f2z : (0 : Int) < (B.es.length : Int) + (B.ks.length : Int) := by omega
                have q1 := smA.e
                have q2 := smA.k
                have q3 := smB.e
                have q4 := smB.k
                clear hA hM hB eA eM eB lvs en f1 f2
                have tz : ¬ ((es.length : Int) < 2 ∧ (ks.length : Int) < 2) := by omega
                clear t1
                by_cases t1 : (es.length : Int) < 2
                ·
                  have t2 : ¬ (ks.length : Int) < 2 := by omega
                  clear tz
                  have C25 : Hid _ := split_any ⟨lf, es, ks, ss⟩ _ _ _ w23 F24N.out sm
                  rw [HA.out] at C25
                  rw [HM.out] at C25
                  rw [HBn.out] at C25
                  go_wp2_with fail
                  refine Calls.mono C25.out ?_
                  rintro e v25 ⟨x25e, x25k, x25s, y25e, y25k, y25s, rfl, o25, p25, h25⟩
                  clear C25
                  obtain ⟨a25e, c25e, rfl⟩ := ownShape (n := A.es.length) o25.e
                  obtain ⟨a25k, c25k, rfl⟩ := ownShape (n := A.ks.length) o25.k
                  obtain ⟨a25s, c25s, rfl⟩ := ownShape (n := A.ss.length) o25.s
                  obtain ⟨b25e, d25e, rfl⟩ := ownShape (n := B.es.length) p25.e
                  obtain ⟨b25k, d25k, rfl⟩ := ownShape (n := B.ks.length) p25.k
                  obtain ⟨b25s, d25s, rfl⟩ := ownShape (n := B.ss.length) p25.s
                  have g25 := (belAlloc _ (belAlloc _ h25) : Below w23.heap.size w23 ((v25.alloc (.cells #[.bool A.leaf, .slice a25e (A.es.length) c25e, .slice a25k (A.ks.length) c25k, .slice a25s (A.ss.length) c25s] 26)).alloc (.cells #[.bool B.leaf, .slice b25e (B.es.length) d25e, .slice b25k (B.ks.length) d25k, .slice b25s (B.ss.length) d25s] 26)))
                  have F26KA : Aside (Cl ((v25.alloc (.cells #[.bool A.leaf, .slice a25e (A.es.length) c25e, .slice a25k (A.ks.length) c25k, .slice a25s (A.ss.length) c25s] 26)).alloc (.cells #[.bool B.leaf, .slice b25e (B.es.length) d25e, .slice b25k (B.ks.length) d25k, .slice b25s (B.ss.length) d25s] 26)) v25.heap.size #[.bool A.leaf, .slice a25e (A.es.length) c25e, .slice a25k (A.ks.length) c25k, .slice a25s (A.ss.length) c25s] 26) := (Cl.new0 _ _ _).alloc _
                  have F27KB : Aside (Cl ((v25.alloc (.cells #[.bool A.leaf, .slice a25e (A.es.length) c25e, .slice a25k (A.ks.length) c25k, .slice a25s (A.ss.length) c25s] 26)).alloc (.cells #[.bool B.leaf, .slice b25e (B.es.length) d25e, .slice b25k (B.ks.length) d25k, .slice b25s (B.ss.length) d25s] 26)) (v25.heap.size + 1) #[.bool B.leaf, .slice b25e (B.es.length) d25e, .slice b25k (B.ks.length) d25k, .slice b25s (B.ss.length) d25s] 26) := Cl.new1 _ _ _ _
                  have F28OA : Aside (NdO w23.heap.size ((v25.alloc (.cells #[.bool A.leaf, .slice a25e (A.es.length) c25e, .slice a25k (A.ks.length) c25k, .slice a25s (A.ss.length) c25s] 26)).alloc (.cells #[.bool B.leaf, .slice b25e (B.es.length) d25e, .slice b25k (B.ks.length) d25k, .slice b25s (B.ss.length) d25s] 26)) (.slice a25e (A.es.length) c25e) (.slice a25k (A.ks.length) c25k) (.slice a25s (A.ss.length) c25s) A) := o25.below (belAlloc _ (belAlloc _ (Below.refl _ _)))
                  have F29OB : Aside (NdO w23.heap.size ((v25.alloc (.cells #[.bool A.leaf, .slice a25e (A.es.length) c25e, .slice a25k (A.ks.length) c25k, .slice a25s (A.ss.length) c25s] 26)).alloc (.cells #[.bool B.leaf, .slice b25e (B.es.length) d25e, .slice b25k (B.ks.length) d25k, .slice b25s (B.ss.length) d25s] 26)) (.slice b25e (B.es.length) d25e) (.slice b25k (B.ks.length) d25k) (.slice b25s (B.ss.length) d25s) B) := p25.below (belAlloc _ (belAlloc _ (Below.refl _ _)))
                  clear q24P0 q24P1 q24P2 q24P3 q24Pl
                  have B30 : Hid (Below w.heap.size w ((v25.alloc (.cells #[.bool A.leaf, .slice a25e (A.es.length) c25e, .slice a25k (A.ks.length) c25k, .slice a25s (A.ss.length) c25s] 26)).alloc (.cells #[.bool B.leaf, .slice b25e (B.es.length) d25e, .slice b25k (B.ks.length) d25k, .slice b25s (B.ss.length) d25s] 26))) := B24.out.trans (g25.mono B24.out.size)
                  have F30P : Aside (Cl ((v25.alloc (.cells #[.bool A.leaf, .slice a25e (A.es.length) c25e, .slice a25k (A.ks.length) c25k, .slice a25s (A.ss.length) c25s] 26)).alloc (.cells #[.bool B.leaf, .slice b25e (B.es.length) d25e, .slice b25k (B.ks.length) d25k, .slice b25s (B.ss.length) d25s] 26)) p #[.bool lf, .slice ae es.length ce, .slice ak ks.length ck, .slice az ss.length cz] 26) := Cl.on F24P.out g25
                  clear F24P
                  have F30N : Aside (NdR ((v25.alloc (.cells #[.bool A.leaf, .slice a25e (A.es.length) c25e, .slice a25k (A.ks.length) c25k, .slice a25s (A.ss.length) c25s] 26)).alloc (.cells #[.bool B.leaf, .slice b25e (B.es.length) d25e, .slice b25k (B.ks.length) d25k, .slice b25s (B.ss.length) d25s] 26)) (.slice ae es.length ce) (.slice ak ks.length ck) (.slice az ss.length cz) ⟨lf, es, ks, ss⟩) := F24N.out.below g25
                  clear F24N
                  clear B24
                  clear g25 h25 o25 p25
                  go_upto_region 21 with fail
                  generalize ((v25.alloc (.cells #[.bool A.leaf, .slice a25e (A.es.length) c25e, .slice a25k (A.ks.length) c25k, .slice a25s (A.ss.length) c25s] 26)).alloc (.cells #[.bool B.leaf, .slice b25e (B.es.length) d25e, .slice b25k (B.ks.length) d25k, .slice b25s (B.ss.length) d25s] 26)) = u25 at *
                  generalize v25.heap.size + 1 = QB at *
                  generalize v25.heap.size = QA at *
                  generalize w23.heap.size = ZA at *
                  refine region_inv 8 (JBk u25 p QA QB lf mid (.agg #[.bool A.leaf, .slice a25e (A.es.length) c25e, .slice a25k (A.ks.length) c25k, .slice a25s (A.ss.length) c25s]) (.agg #[.bool B.leaf, .slice b25e (B.es.length) d25e, .slice b25k (B.ks.length) d25k, .slice b25s (B.ss.length) d25s]) (.agg #[.bool lf, .slice ae es.length ce, .slice ak ks.length ck, .slice az ss.length cz]) es ks ss _ _ _ _ _ _ _ _ _ _ _ _ _ _ _ _ _ _ _ _ _ _ _ _ _ _ _ _ _ _ _ _ _ _ _ _ _ _ _ _ _ _ _ _ _ _ _ _ _ _ _ _ _ _ _ _ _ _ _ _ _ _ _ _ _ _ _ _ _ _ _ _ _ _ _ _ _ _ _ _ _ _ _ _ _ _ _ _ _ _ _ _ _ _ _ _ _ _ _ _ _ _ _ _ _ _ _ _ _ _ _ _ _ _ _ _ _ _ _ _ _ _ _ _ _ _ _ _ _ _ _ _ _ _ _ _ _ _ _ _ _ _ _ _ _ _ _ _ _ _ _) (by kernel_rfl) (by kernel_rfl) (by kernel_rfl) ⟨false, false, false, false, false, false, false, false, false, rfl, rfl, _, _, _, _, _, _, _, _, rfl, (Below.refl _ u25).drew, (fun h => by cases h), (fun h => by cases h), (fun h => by cases h), (fun h => by cases h), (fun h => by cases h), (fun h => by cases h), (fun h => by cases h), (fun h => by cases h)⟩ ?_ ?_ ?_
                  · intro i f a w' hne hl hJ
                    refine JBk.elim hJ (C := fun f a w' => i ∈ Region.ready .any _ f.toArray → wpOp _ _ _ i (fun a' w'' => JBk u25 p QA QB lf mid (.agg #[.bool A.leaf, .slice a25e (A.es.length) c25e, .slice a25k (A.ks.length) c25k, .slice a25s (A.ss.length) c25s]) (.agg #[.bool B.leaf, .slice b25e (B.es.length) d25e, .slice b25k (B.ks.length) d25k, .slice b25s (B.ss.length) d25s]) (.agg #[.bool lf, .slice ae es.length ce, .slice ak ks.length ck, .slice az ss.length cz]) es ks ss _ _ _ _ _ _ _ _ _ _ _ _ _ _ _ _ _ _ _ _ _ _ _ _ _ _ _ _ _ _ _ _ _ _ _ _ _ _ _ _ _ _ _ _ _ _ _ _ _ _ _ _ _ _ _ _ _ _ _ _ _ _ _ _ _ _ _ _ _ _ _ _ _ _ _ _ _ _ _ _ _ _ _ _ _ _ _ _ _ _ _ _ _ _ _ _ _ _ _ _ _ _ _ _ _ _ _ _ _ _ _ _ _ _ _ _ _ _ _ _ _ _ _ _ _ _ _ _ _ _ _ _ _ _ _ _ _ _ _ _ _ _ _ _ _ _ _ _ _ _ _ (f.set i true) a' w'') a w') ?_
                    clear hJ hl f a
                    intro f0 f1 f2 f3 f4 f5 f6 f7 f8 x122 x123 x124 x125 x126 x127 x128 x129 e8 hB h0 h1 h2 h3 h4 h5 h6 h7 hi
                    obtain ⟨hlt, hun, _⟩ := ready_mem hi
                    have hlt' : i < 9 := hlt
                    clear hlt
                    rcases (by omega : i = 0 ∨ i = 1 ∨ i = 2 ∨ i = 3 ∨ i = 4 ∨ i = 5 ∨ i = 6 ∨ i = 7) with rfl | rfl | rfl | rfl | rfl | rfl | rfl | rfl
                    · have un : f0 = false := hun
                      clear hun
                      clear hi hne hlt'
                      obtain ⟨i0, i1, i2, i3⟩ := (F26KA.out.on hB).four
                      refine wpOp_step rfl (fun K hK => ?_)
                      have HK : Shut _ := hK
                      clear hK
                      go_simp
                      refine HK.out _ _ ?_
                      exact ⟨true, f1, f2, f3, f4, f5, f6, f7, f8, rfl, e8, _, _, _, _, _, _, _, _, rfl, hB, (fun _ => rfl), h1, h2, h3, h4, h5, h6, h7⟩
                    · have un : f1 = false := hun
                      clear hun
                      clear hi hne hlt'
                      refine wpOp_step rfl (fun K hK => ?_)
                      have HK : Shut _ := hK
                      clear hK
                      go_simp
                      refine HK.out _ _ ?_
                      exact ⟨f0, true, f2, f3, f4, f5, f6, f7, f8, rfl, e8, _, _, _, _, _, _, _, _, rfl, hB, h0, (fun _ => rfl), h2, h3, h4, h5, h6, h7⟩
                    · have un : f2 = false := hun
                      clear hun
                      clear hi hne hlt'
                      obtain ⟨i0, i1, i2, i3⟩ := (F27KB.out.on hB).four
                      refine wpOp_step rfl (fun K hK => ?_)
                      have HK : Shut _ := hK
                      clear hK
                      go_simp
                      refine HK.out _ _ ?_
                      exact ⟨f0, f1, true, f3, f4, f5, f6, f7, f8, rfl, e8, _, _, _, _, _, _, _, _, rfl, hB, h0, h1, (fun _ => rfl), h3, h4, h5, h6, h7⟩
                    · have un : f3 = false := hun
                      clear hun
                      have d0 : f0 = true := ready_dep 0 hi (by kernel_rfl)
                      have y0 := h0.out d0
                      subst y0
                      have d1 : f1 = true := ready_dep 1 hi (by kernel_rfl)
                      have y1 := h1.out d1
                      subst y1
                      have d2 : f2 = true := ready_dep 2 hi (by kernel_rfl)
                      have y2 := h2.out d2
                      subst y2
                      clear hi hne hlt'
                      refine wpOp_step rfl (fun K hK => ?_)
                      have HK : Shut _ := hK
                      clear hK
                      go_simp
                      refine Calls.mono (by
                              have hh := njoin_any mid A B _ _ _ _ _ _ w' (F28OA.out.r.below hB) (F29OB.out.r.below hB) smA.l smB.l
                              rw [bk.out] at hh
                              exact hh) ?_
                      rintro e w1 ⟨x1, x2, x3, rfl, ow, b1⟩
                      obtain ⟨a1, c1, rfl⟩ := ownShape (n := es.length) ow.e
                      obtain ⟨a2, c2, rfl⟩ := ownShape (n := ks.length) ow.k
                      obtain ⟨a3, c3, rfl⟩ := ownShape (n := ss.length) ow.s
                      refine HK.out _ _ ?_
                      exact ⟨f0, f1, f2, true, f4, f5, f6, f7, f8, rfl, e8, _, _, _, _, _, _, _, _, rfl, belCall b1 hB, h0, h1, h2, (fun _ => ⟨a1, c1, a2, c2, a3, c3, rfl, ow.mono hB.size⟩), (fun d => by have e := (h4.out d).1; rw [un] at e; cases e), h5, h6, h7⟩
                    · have un : f4 = false := hun
                      clear hun
                      have d3 : f3 = true := ready_dep 3 hi (by kernel_rfl)
                      obtain ⟨a3e, c3e, a3k, c3k, a3s, c3s, y3, o3⟩ := h3.out d3
                      subst y3
                      clear hi hne hlt'
                      refine wpOp_step rfl (fun K hK => ?_)
                      have HK : Shut _ := hK
                      clear hK
                      go_simp
                      refine Calls.mono (of_any lf _ _ _ w' ⟨lf, es, ks, ss⟩ o3.r) ?_
                      rintro e w1 ⟨rfl, b1⟩
                      refine HK.out _ _ ?_
                      exact ⟨f0, f1, f2, f3, true, f5, f6, f7, f8, rfl, e8, _, _, _, _, _, _, _, _, rfl, belCall b1 hB, h0, h1, h2, (fun d => let ⟨a1, c1, a2, c2, a3, c3, e, o⟩ := h3.out d; ⟨a1, c1, a2, c2, a3, c3, e, o.below (b1)⟩), (fun _ => ⟨d3, rfl⟩), h5, h6, h7⟩
                    · have un : f5 = false := hun
                      clear hun
                      clear hi hne hlt'
                      obtain ⟨i0, i1, i2, i3⟩ := (F30P.out.on hB).four
                      refine wpOp_step rfl (fun K hK => ?_)
                      have HK : Shut _ := hK
                      clear hK
                      go_simp
                      refine HK.out _ _ ?_
                      exact ⟨f0, f1, f2, f3, f4, true, f6, f7, f8, rfl, e8, _, _, _, _, _, _, _, _, rfl, hB, h0, h1, h2, h3, h4, (fun _ => rfl), h6, h7⟩
                    · have un : f6 = false := hun
                      clear hun
                      have d5 : f5 = true := ready_dep 5 hi (by kernel_rfl)
                      have y5 := h5.out d5
                      subst y5
                      clear hi hne hlt'
                      refine wpOp_step rfl (fun K hK => ?_)
                      have HK : Shut _ := hK
                      clear hK
                      go_simp
                      refine Calls.mono (of_any lf _ _ _ w' ⟨lf, es, ks, ss⟩ (F30N.out.below hB)) ?_
                      rintro e w1 ⟨rfl, b1⟩
                      refine HK.out _ _ ?_
                      exact ⟨f0, f1, f2, f3, f4, f5, true, f7, f8, rfl, e8, _, _, _, _, _, _, _, _, rfl, belCall b1 hB, h0, h1, h2, (fun d => let ⟨a1, c1, a2, c2, a3, c3, e, o⟩ := h3.out d; ⟨a1, c1, a2, c2, a3, c3, e, o.below (b1)⟩), h4, h5, (fun _ => rfl), h7⟩
                    · have un : f7 = false := hun
                      clear hun
                      have d4 : f4 = true := ready_dep 4 hi (by kernel_rfl)
                      obtain ⟨u3, y4⟩ := h4.out d4
                      obtain ⟨a3e, c3e, a3k, c3k, a3s, c3s, y3, o3⟩ := h3.out u3
                      subst y3
                      subst y4
                      have d6 : f6 = true := ready_dep 6 hi (by kernel_rfl)
                      have y6 := h6.out d6
                      subst y6
                      clear hi hne hlt'
                      refine wpOp_step rfl (fun K hK => ?_)
                      have HK : Shut _ := hK
                      clear hK
                      go_simp
                      refine Calls.mono (nsame_any ⟨lf, es, ks, ss⟩ _ _ _ _ _ _ w' o3.r (F30N.out.below hB) sm) ?_
                      rintro e w1 ⟨rfl, b1⟩
                      refine HK.out _ _ ?_
                      exact ⟨f0, f1, f2, f3, f4, f5, f6, true, f8, rfl, e8, _, _, _, _, _, _, _, _, rfl, belCall b1 hB, h0, h1, h2, (fun d => let ⟨a1, c1, a2, c2, a3, c3, e, o⟩ := h3.out d; ⟨a1, c1, a2, c2, a3, c3, e, o.below (b1)⟩), h4, h5, h6, (fun _ => rfl)⟩
                  · intro f a w' hl hJ
                    refine JBk.elim hJ (C := fun f a w' => 8 ∈ Region.ready .any _ f.toArray → wpOp _ _ _ 8 _ a w') ?_
                    clear hJ hl f a
                    intro f0 f1 f2 f3 f4 f5 f6 f7 f8 x122 x123 x124 x125 x126 x127 x128 x129 e8 hB h0 h1 h2 h3 h4 h5 h6 h7 hi
                    have d7 : f7 = true := ready_dep 7 hi (by kernel_rfl)
                    have y7 := h7.out d7
                    subst y7
                    clear hi
                    refine wpOp_step rfl (fun K hK => ?_)
                    have HK : Shut _ := hK
                    clear hK
                    go_simp
                    refine HK.out _ _ ?_
                    have GA : Aside (Cl w' QA #[.bool A.leaf, .slice a25e (A.es.length) c25e, .slice a25k (A.ks.length) c25k, .slice a25s (A.ss.length) c25s] 26) := F26KA.out.on hB
                    have GB : Aside (Cl w' QB #[.bool B.leaf, .slice b25e (B.es.length) d25e, .slice b25k (B.ks.length) d25k, .slice b25s (B.ss.length) d25s] 26) := F27KB.out.on hB
                    have GRA : Aside (NdO ZA w' (.slice a25e (A.es.length) c25e) (.slice a25k (A.ks.length) c25k) (.slice a25s (A.ss.length) c25s) A) := F28OA.out.below hB
                    have GRB : Aside (NdO ZA w' (.slice b25e (B.es.length) d25e) (.slice b25k (B.ks.length) d25k) (.slice b25s (B.ss.length) d25s) B) := F29OB.out.below hB
                    have BQ : Hid (Below w.heap.size w w') := B30.out.trans (hB.mono B30.out.size)
                    clear h0 h1 h2 h3 h4 h5 h6 h7 hB F26KA F27KB F28OA F29OB F30P F30N B30
                    obtain ⟨q30KA0, q30KA1, q30KA2, q30KA3⟩ := GA.out.four
                    have q30KAl := GA.out.lt
                    obtain ⟨q30KB0, q30KB1, q30KB2, q30KB3⟩ := GB.out.four
                    have q30KBl := GB.out.lt
                    have C31 : Hid _ := nright_any A _ _ _ w' GRA.out.r smA
                    rw [rg.out.1] at C31
                    go_wp2_with fail
                    refine Calls.mono C31.out ?_
                    rintro e w31 ⟨rfl, hb31⟩
                    clear C31
                    clear q30KA0 q30KA1 q30KA2 q30KA3 q30KAl q30KB0 q30KB1 q30KB2 q30KB3 q30KBl
                    have B32 : Hid (Below w.heap.size w w31) := BQ.out.trans (hb31.mono BQ.out.size)
                    have F32KA : Aside (Cl w31 QA #[.bool A.leaf, .slice a25e (A.es.length) c25e, .slice a25k (A.ks.length) c25k, .slice a25s (A.ss.length) c25s] 26) := Cl.on GA.out hb31
                    clear GA
                    have F32KB : Aside (Cl w31 (QB) #[.bool B.leaf, .slice b25e (B.es.length) d25e, .slice b25k (B.ks.length) d25k, .slice b25s (B.ss.length) d25s] 26) := Cl.on GB.out hb31
                    clear GB
                    have F32OA : Aside (NdO ZA w31 (.slice a25e (A.es.length) c25e) (.slice a25k (A.ks.length) c25k) (.slice a25s (A.ss.length) c25s) A) := GRA.out.below hb31
                    clear GRA
                    have F32OB : Aside (NdO ZA w31 (.slice b25e (B.es.length) d25e) (.slice b25k (B.ks.length) d25k) (.slice b25s (B.ss.length) d25s) B) := GRB.out.below hb31
                    clear GRB
                    clear BQ
                    clear hb31
                    obtain ⟨q32KA0, q32KA1, q32KA2, q32KA3⟩ := F32KA.out.four
                    have q32KAl := F32KA.out.lt
                    obtain ⟨q32KB0, q32KB1, q32KB2, q32KB3⟩ := F32KB.out.four
                    have q32KBl := F32KB.out.lt
                    have C33 : Hid _ := nright_any B _ _ _ w31 F32OB.out.r smB
                    rw [rg.out.2] at C33
                    go_wp2_with fail
                    refine Calls.mono C33.out ?_
                    rintro e w33 ⟨rfl, hb33⟩
                    clear C33
                    clear q32KA0 q32KA1 q32KA2 q32KA3 q32KAl q32KB0 q32KB1 q32KB2 q32KB3 q32KBl
                    have B34 : Hid (Below w.heap.size w w33) := B32.out.trans (hb33.mono B32.out.size)
                    have F34KA : Aside (Cl w33 QA #[.bool A.leaf, .slice a25e (A.es.length) c25e, .slice a25k (A.ks.length) c25k, .slice a25s (A.ss.length) c25s] 26) := Cl.on F32KA.out hb33
                    clear F32KA
                    have F34KB : Aside (Cl w33 (QB) #[.bool B.leaf, .slice b25e (B.es.length) d25e, .slice b25k (B.ks.length) d25k, .slice b25s (B.ss.length) d25s] 26) := Cl.on F32KB.out hb33
                    clear F32KB
                    have F34OA : Aside (NdO ZA w33 (.slice a25e (A.es.length) c25e) (.slice a25k (A.ks.length) c25k) (.slice a25s (A.ss.length) c25s) A) := F32OA.out.below hb33
                    clear F32OA
                    have F34OB : Aside (NdO ZA w33 (.slice b25e (B.es.length) d25e) (.slice b25k (B.ks.length) d25k) (.slice b25s (B.ss.length) d25s) B) := F32OB.out.below hb33
                    clear F32OB
                    clear B32
                    clear hb33
                    go_wp2
                    go_ret
                    exact ⟨rfl, B34.out⟩
                  · rintro f a w' ⟨f0, f1, f2, f3, f4, f5, f6, f7, f8, rfl, rfl, _⟩
                    rfl
                ·
                  clear tz
                  have C25 : Hid _ := split_any ⟨lf, es, ks, ss⟩ _ _ _ w23 F24N.out sm
                  rw [HA.out] at C25
                  rw [HM.out] at C25
                  rw [HBn.out] at C25
                  go_wp2_with fail
                  refine Calls.mono C25.out ?_
                  rintro e v25 ⟨x25e, x25k, x25s, y25e, y25k, y25s, rfl, o25, p25, h25⟩
                  clear C25
                  obtain ⟨a25e, c25e, rfl⟩ := ownShape (n := A.es.length) o25.e
                  obtain ⟨a25k, c25k, rfl⟩ := ownShape (n := A.ks.length) o25.k
                  obtain ⟨a25s, c25s, rfl⟩ := ownShape (n := A.ss.length) o25.s
                  obtain ⟨b25e, d25e, rfl⟩ := ownShape (n := B.es.length) p25.e
                  obtain ⟨b25k, d25k, rfl⟩ := ownShape (n := B.ks.length) p25.k
                  obtain ⟨b25s, d25s, rfl⟩ := ownShape (n := B.ss.length) p25.s
                  have g25 := (belAlloc _ (belAlloc _ h25) : Below w23.heap.size w23 ((v25.alloc (.cells #[.bool A.leaf, .slice a25e (A.es.length) c25e, .slice a25k (A.ks.length) c25k, .slice a25s (A.ss.length) c25s] 26)).alloc (.cells #[.bool B.leaf, .slice b25e (B.es.length) d25e, .slice b25k (B.ks.length) d25k, .slice b25s (B.ss.length) d25s] 26)))
                  have F26KA : Aside (Cl ((v25.alloc (.cells #[.bool A.leaf, .slice a25e (A.es.length) c25e, .slice a25k (A.ks.length) c25k, .slice a25s (A.ss.length) c25s] 26)).alloc (.cells #[.bool B.leaf, .slice b25e (B.es.length) d25e, .slice b25k (B.ks.length) d25k, .slice b25s (B.ss.length) d25s] 26)) v25.heap.size #[.bool A.leaf, .slice a25e (A.es.length) c25e, .slice a25k (A.ks.length) c25k, .slice a25s (A.ss.length) c25s] 26) := (Cl.new0 _ _ _).alloc _
                  have F27KB : Aside (Cl ((v25.alloc (.cells #[.bool A.leaf, .slice a25e (A.es.length) c25e, .slice a25k (A.ks.length) c25k, .slice a25s (A.ss.length) c25s] 26)).alloc (.cells #[.bool B.leaf, .slice b25e (B.es.length) d25e, .slice b25k (B.ks.length) d25k, .slice b25s (B.ss.length) d25s] 26)) (v25.heap.size + 1) #[.bool B.leaf, .slice b25e (B.es.length) d25e, .slice b25k (B.ks.length) d25k, .slice b25s (B.ss.length) d25s] 26) := Cl.new1 _ _ _ _
                  have F28OA : Aside (NdO w23.heap.size ((v25.alloc (.cells #[.bool A.leaf, .slice a25e (A.es.length) c25e, .slice a25k (A.ks.length) c25k, .slice a25s (A.ss.length) c25s] 26)).alloc (.cells #[.bool B.leaf, .slice b25e (B.es.length) d25e, .slice b25k (B.ks.length) d25k, .slice b25s (B.ss.length) d25s] 26)) (.slice a25e (A.es.length) c25e) (.slice a25k (A.ks.length) c25k) (.slice a25s (A.ss.length) c25s) A) := o25.below (belAlloc _ (belAlloc _ (Below.refl _ _)))
                  have F29OB : Aside (NdO w23.heap.size ((v25.alloc (.cells #[.bool A.leaf, .slice a25e (A.es.length) c25e, .slice a25k (A.ks.length) c25k, .slice a25s (A.ss.length) c25s] 26)).alloc (.cells #[.bool B.leaf, .slice b25e (B.es.length) d25e, .slice b25k (B.ks.length) d25k, .slice b25s (B.ss.length) d25s] 26)) (.slice b25e (B.es.length) d25e) (.slice b25k (B.ks.length) d25k) (.slice b25s (B.ss.length) d25s) B) := p25.below (belAlloc _ (belAlloc _ (Below.refl _ _)))
                  clear q24P0 q24P1 q24P2 q24P3 q24Pl
                  have B30 : Hid (Below w.heap.size w ((v25.alloc (.cells #[.bool A.leaf, .slice a25e (A.es.length) c25e, .slice a25k (A.ks.length) c25k, .slice a25s (A.ss.length) c25s] 26)).alloc (.cells #[.bool B.leaf, .slice b25e (B.es.length) d25e, .slice b25k (B.ks.length) d25k, .slice b25s (B.ss.length) d25s] 26))) := B24.out.trans (g25.mono B24.out.size)
                  have F30P : Aside (Cl ((v25.alloc (.cells #[.bool A.leaf, .slice a25e (A.es.length) c25e, .slice a25k (A.ks.length) c25k, .slice a25s (A.ss.length) c25s] 26)).alloc (.cells #[.bool B.leaf, .slice b25e (B.es.length) d25e, .slice b25k (B.ks.length) d25k, .slice b25s (B.ss.length) d25s] 26)) p #[.bool lf, .slice ae es.length ce, .slice ak ks.length ck, .slice az ss.length cz] 26) := Cl.on F24P.out g25
                  clear F24P
                  have F30N : Aside (NdR ((v25.alloc (.cells #[.bool A.leaf, .slice a25e (A.es.length) c25e, .slice a25k (A.ks.length) c25k, .slice a25s (A.ss.length) c25s] 26)).alloc (.cells #[.bool B.leaf, .slice b25e (B.es.length) d25e, .slice b25k (B.ks.length) d25k, .slice b25s (B.ss.length) d25s] 26)) (.slice ae es.length ce) (.slice ak ks.length ck) (.slice az ss.length cz) ⟨lf, es, ks, ss⟩) := F24N.out.below g25
                  clear F24N
                  clear B24
                  clear g25 h25 o25 p25
                  go_upto_region 21 with fail
                  generalize ((v25.alloc (.cells #[.bool A.leaf, .slice a25e (A.es.length) c25e, .slice a25k (A.ks.length) c25k, .slice a25s (A.ss.length) c25s] 26)).alloc (.cells #[.bool B.leaf, .slice b25e (B.es.length) d25e, .slice b25k (B.ks.length) d25k, .slice b25s (B.ss.length) d25s] 26)) = u25 at *
                  generalize v25.heap.size + 1 = QB at *
                  generalize v25.heap.size = QA at *
                  generalize w23.heap.size = ZA at *
                  refine region_inv 8 (JBk u25 p QA QB lf mid (.agg #[.bool A.leaf, .slice a25e (A.es.length) c25e, .slice a25k (A.ks.length) c25k, .slice a25s (A.ss.length) c25s]) (.agg #[.bool B.leaf, .slice b25e (B.es.length) d25e, .slice b25k (B.ks.length) d25k, .slice b25s (B.ss.length) d25s]) (.agg #[.bool lf, .slice ae es.length ce, .slice ak ks.length ck, .slice az ss.length cz]) es ks ss _ _ _ _ _ _ _ _ _ _ _ _ _ _ _ _ _ _ _ _ _ _ _ _ _ _ _ _ _ _ _ _ _ _ _ _ _ _ _ _ _ _ _ _ _ _ _ _ _ _ _ _ _ _ _ _ _ _ _ _ _ _ _ _ _ _ _ _ _ _ _ _ _ _ _ _ _ _ _ _ _ _ _ _ _ _ _ _ _ _ _ _ _ _ _ _ _ _ _ _ _ _ _ _ _ _ _ _ _ _ _ _ _ _ _ _ _ _ _ _ _ _ _ _ _ _ _ _ _ _ _ _ _ _ _ _ _ _ _ _ _ _ _ _ _ _ _ _ _ _ _) (by kernel_rfl) (by kernel_rfl) (by kernel_rfl) ⟨false, false, false, false, false, false, false, false, false, rfl, rfl, _, _, _, _, _, _, _, _, rfl, (Below.refl _ u25).drew, (fun h => by cases h), (fun h => by cases h), (fun h => by cases h), (fun h => by cases h), (fun h => by cases h), (fun h => by cases h), (fun h => by cases h), (fun h => by cases h)⟩ ?_ ?_ ?_
                  · intro i f a w' hne hl hJ
                    refine JBk.elim hJ (C := fun f a w' => i ∈ Region.ready .any _ f.toArray → wpOp _ _ _ i (fun a' w'' => JBk u25 p QA QB lf mid (.agg #[.bool A.leaf, .slice a25e (A.es.length) c25e, .slice a25k (A.ks.length) c25k, .slice a25s (A.ss.length) c25s]) (.agg #[.bool B.leaf, .slice b25e (B.es.length) d25e, .slice b25k (B.ks.length) d25k, .slice b25s (B.ss.length) d25s]) (.agg #[.bool lf, .slice ae es.length ce, .slice ak ks.length ck, .slice az ss.length cz]) es ks ss _ _ _ _ _ _ _ _ _ _ _ _ _ _ _ _ _ _ _ _ _ _ _ _ _ _ _ _ _ _ _ _ _ _ _ _ _ _ _ _ _ _ _ _ _ _ _ _ _ _ _ _ _ _ _ _ _ _ _ _ _ _ _ _ _ _ _ _ _ _ _ _ _ _ _ _ _ _ _ _ _ _ _ _ _ _ _ _ _ _ _ _ _ _ _ _ _ _ _ _ _ _ _ _ _ _ _ _ _ _ _ _ _ _ _ _ _ _ _ _ _ _ _ _ _ _ _ _ _ _ _ _ _ _ _ _ _ _ _ _ _ _ _ _ _ _ _ _ _ _ _ (f.set i true) a' w'') a w') ?_
                    clear hJ hl f a
                    intro f0 f1 f2 f3 f4 f5 f6 f7 f8 x122 x123 x124 x125 x126 x127 x128 x129 e8 hB h0 h1 h2 h3 h4 h5 h6 h7 hi
                    obtain ⟨hlt, hun, _⟩ := ready_mem hi
                    have hlt' : i < 9 := hlt
                    clear hlt
                    rcases (by omega : i = 0 ∨ i = 1 ∨ i = 2 ∨ i = 3 ∨ i = 4 ∨ i = 5 ∨ i = 6 ∨ i = 7) with rfl | rfl | rfl | rfl | rfl | rfl | rfl | rfl
                    · have un : f0 = false := hun
                      clear hun
                      clear hi hne hlt'
                      obtain ⟨i0, i1, i2, i3⟩ := (F26KA.out.on hB).four
                      refine wpOp_step rfl (fun K hK => ?_)
                      have HK : Shut _ := hK
                      clear hK
                      go_simp
                      refine HK.out _ _ ?_
                      exact ⟨true, f1, f2, f3, f4, f5, f6, f7, f8, rfl, e8, _, _, _, _, _, _, _, _, rfl, hB, (fun _ => rfl), h1, h2, h3, h4, h5, h6, h7⟩
                    · have un : f1 = false := hun
                      clear hun
                      clear hi hne hlt'
                      refine wpOp_step rfl (fun K hK => ?_)
                      have HK : Shut _ := hK
                      clear hK
                      go_simp
                      refine HK.out _ _ ?_
                      exact ⟨f0, true, f2, f3, f4, f5, f6, f7, f8, rfl, e8, _, _, _, _, _, _, _, _, rfl, hB, h0, (fun _ => rfl), h2, h3, h4, h5, h6, h7⟩
                    · have un : f2 = false := hun
                      clear hun
                      clear hi hne hlt'
                      obtain ⟨i0, i1, i2, i3⟩ := (F27KB.out.on hB).four
                      refine wpOp_step rfl (fun K hK => ?_)
                      have HK : Shut _ := hK
                      clear hK
                      go_simp
                      refine HK.out _ _ ?_
                      exact ⟨f0, f1, true, f3, f4, f5, f6, f7, f8, rfl, e8, _, _, _, _, _, _, _, _, rfl, hB, h0, h1, (fun _ => rfl), h3, h4, h5, h6, h7⟩
                    · have un : f3 = false := hun
                      clear hun
                      have d0 : f0 = true := ready_dep 0 hi (by kernel_rfl)
                      have y0 := h0.out d0
                      subst y0
                      have d1 : f1 = true := ready_dep 1 hi (by kernel_rfl)
                      have y1 := h1.out d1
                      subst y1
                      have d2 : f2 = true := ready_dep 2 hi (by kernel_rfl)
                      have y2 := h2.out d2
                      subst y2
                      clear hi hne hlt'
                      refine wpOp_step rfl (fun K hK => ?_)
                      have HK : Shut _ := hK
                      clear hK
                      go_simp
                      refine Calls.mono (by
                              have hh := njoin_any mid A B _ _ _ _ _ _ w' (F28OA.out.r.below hB) (F29OB.out.r.below hB) smA.l smB.l
                              rw [bk.out] at hh
                              exact hh) ?_
                      rintro e w1 ⟨x1, x2, x3, rfl, ow, b1⟩
                      obtain ⟨a1, c1, rfl⟩ := ownShape (n := es.length) ow.e
                      obtain ⟨a2, c2, rfl⟩ := ownShape (n := ks.length) ow.k
                      obtain ⟨a3, c3, rfl⟩ := ownShape (n := ss.length) ow.s
                      refine HK.out _ _ ?_
                      exact ⟨f0, f1, f2, true, f4, f5, f6, f7, f8, rfl, e8, _, _, _, _, _, _, _, _, rfl, belCall b1 hB, h0, h1, h2, (fun _ => ⟨a1, c1, a2, c2, a3, c3, rfl, ow.mono hB.size⟩), (fun d => by have e := (h4.out d).1; rw [un] at e; cases e), h5, h6, h7⟩
                    · have un : f4 = false := hun
                      clear hun
                      have d3 : f3 = true := ready_dep 3 hi (by kernel_rfl)
                      obtain ⟨a3e, c3e, a3k, c3k, a3s, c3s, y3, o3⟩ := h3.out d3
                      subst y3
                      clear hi hne hlt'
                      refine wpOp_step rfl (fun K hK => ?_)
                      have HK : Shut _ := hK
                      clear hK
                      go_simp
                      refine Calls.mono (of_any lf _ _ _ w' ⟨lf, es, ks, ss⟩ o3.r) ?_
                      rintro e w1 ⟨rfl, b1⟩
                      refine HK.out _ _ ?_
                      exact ⟨f0, f1, f2, f3, true, f5, f6, f7, f8, rfl, e8, _, _, _, _, _, _, _, _, rfl, belCall b1 hB, h0, h1, h2, (fun d => let ⟨a1, c1, a2, c2, a3, c3, e, o⟩ := h3.out d; ⟨a1, c1, a2, c2, a3, c3, e, o.below (b1)⟩), (fun _ => ⟨d3, rfl⟩), h5, h6, h7⟩
                    · have un : f5 = false := hun
                      clear hun
                      clear hi hne hlt'
                      obtain ⟨i0, i1, i2, i3⟩ := (F30P.out.on hB).four
                      refine wpOp_step rfl (fun K hK => ?_)
                      have HK : Shut _ := hK
                      clear hK
                      go_simp
                      refine HK.out _ _ ?_
                      exact ⟨f0, f1, f2, f3, f4, true, f6, f7, f8, rfl, e8, _, _, _, _, _, _, _, _, rfl, hB, h0, h1, h2, h3, h4, (fun _ => rfl), h6, h7⟩
                    · have un : f6 = false := hun
                      clear hun
                      have d5 : f5 = true := ready_dep 5 hi (by kernel_rfl)
                      have y5 := h5.out d5
                      subst y5
                      clear hi hne hlt'
                      refine wpOp_step rfl (fun K hK => ?_)
                      have HK : Shut _ := hK
                      clear hK
                      go_simp
                      refine Calls.mono (of_any lf _ _ _ w' ⟨lf, es, ks, ss⟩ (F30N.out.below hB)) ?_
                      rintro e w1 ⟨rfl, b1⟩
                      refine HK.out _ _ ?_
                      exact ⟨f0, f1, f2, f3, f4, f5, true, f7, f8, rfl, e8, _, _, _, _, _, _, _, _, rfl, belCall b1 hB, h0, h1, h2, (fun d => let ⟨a1, c1, a2, c2, a3, c3, e, o⟩ := h3.out d; ⟨a1, c1, a2, c2, a3, c3, e, o.below (b1)⟩), h4, h5, (fun _ => rfl), h7⟩
                    · have un : f7 = false := hun
                      clear hun
                      have d4 : f4 = true := ready_dep 4 hi (by kernel_rfl)
                      obtain ⟨u3, y4⟩ := h4.out d4
                      obtain ⟨a3e, c3e, a3k, c3k, a3s, c3s, y3, o3⟩ := h3.out u3
                      subst y3
                      subst y4
                      have d6 : f6 = true := ready_dep 6 hi (by kernel_rfl)
                      have y6 := h6.out d6
                      subst y6
                      clear hi hne hlt'
                      refine wpOp_step rfl (fun K hK => ?_)
                      have HK : Shut _ := hK
                      clear hK
                      go_simp
                      refine Calls.mono (nsame_any ⟨lf, es, ks, ss⟩ _ _ _ _ _ _ w' o3.r (F30N.out.below hB) sm) ?_
                      rintro e w1 ⟨rfl, b1⟩
                      refine HK.out _ _ ?_
                      exact ⟨f0, f1, f2, f3, f4, f5, f6, true, f8, rfl, e8, _, _, _, _, _, _, _, _, rfl, belCall b1 hB, h0, h1, h2, (fun d => let ⟨a1, c1, a2, c2, a3, c3, e, o⟩ := h3.out d; ⟨a1, c1, a2, c2, a3, c3, e, o.below (b1)⟩), h4, h5, h6, (fun _ => rfl)⟩
                  · intro f a w' hl hJ
                    refine JBk.elim hJ (C := fun f a w' => 8 ∈ Region.ready .any _ f.toArray → wpOp _ _ _ 8 _ a w') ?_
                    clear hJ hl f a
                    intro f0 f1 f2 f3 f4 f5 f6 f7 f8 x122 x123 x124 x125 x126 x127 x128 x129 e8 hB h0 h1 h2 h3 h4 h5 h6 h7 hi
                    have d7 : f7 = true := ready_dep 7 hi (by kernel_rfl)
                    have y7 := h7.out d7
                    subst y7
                    clear hi
                    refine wpOp_step rfl (fun K hK => ?_)
                    have HK : Shut _ := hK
                    clear hK
                    go_simp
                    refine HK.out _ _ ?_
                    have GA : Aside (Cl w' QA #[.bool A.leaf, .slice a25e (A.es.length) c25e, .slice a25k (A.ks.length) c25k, .slice a25s (A.ss.length) c25s] 26) := F26KA.out.on hB
                    have GB : Aside (Cl w' QB #[.bool B.leaf, .slice b25e (B.es.length) d25e, .slice b25k (B.ks.length) d25k, .slice b25s (B.ss.length) d25s] 26) := F27KB.out.on hB
                    have GRA : Aside (NdO ZA w' (.slice a25e (A.es.length) c25e) (.slice a25k (A.ks.length) c25k) (.slice a25s (A.ss.length) c25s) A) := F28OA.out.below hB
                    have GRB : Aside (NdO ZA w' (.slice b25e (B.es.length) d25e) (.slice b25k (B.ks.length) d25k) (.slice b25s (B.ss.length) d25s) B) := F29OB.out.below hB
                    have BQ : Hid (Below w.heap.size w w') := B30.out.trans (hB.mono B30.out.size)
                    clear h0 h1 h2 h3 h4 h5 h6 h7 hB F26KA F27KB F28OA F29OB F30P F30N B30
                    obtain ⟨q30KA0, q30KA1, q30KA2, q30KA3⟩ := GA.out.four
                    have q30KAl := GA.out.lt
                    obtain ⟨q30KB0, q30KB1, q30KB2, q30KB3⟩ := GB.out.four
                    have q30KBl := GB.out.lt
                    have C31 : Hid _ := nright_any A _ _ _ w' GRA.out.r smA
                    rw [rg.out.1] at C31
                    go_wp2_with fail
                    refine Calls.mono C31.out ?_
                    rintro e w31 ⟨rfl, hb31⟩
                    clear C31
                    clear q30KA0 q30KA1 q30KA2 q30KA3 q30KAl q30KB0 q30KB1 q30KB2 q30KB3 q30KBl
                    have B32 : Hid (Below w.heap.size w w31) := BQ.out.trans (hb31.mono BQ.out.size)
                    have F32KA : Aside (Cl w31 QA #[.bool A.leaf, .slice a25e (A.es.length) c25e, .slice a25k (A.ks.length) c25k, .slice a25s (A.ss.length) c25s] 26) := Cl.on GA.out hb31
                    clear GA
                    have F32KB : Aside (Cl w31 (QB) #[.bool B.leaf, .slice b25e (B.es.length) d25e, .slice b25k (B.ks.length) d25k, .slice b25s (B.ss.length) d25s] 26) := Cl.on GB.out hb31
                    clear GB
                    have F32OA : Aside (NdO ZA w31 (.slice a25e (A.es.length) c25e) (.slice a25k (A.ks.length) c25k) (.slice a25s (A.ss.length) c25s) A) := GRA.out.below hb31
                    clear GRA
                    have F32OB : Aside (NdO ZA w31 (.slice b25e (B.es.length) d25e) (.slice b25k (B.ks.length) d25k) (.slice b25s (B.ss.length) d25s) B) := GRB.out.below hb31
                    clear GRB
                    clear BQ
                    clear hb31
                    obtain ⟨q32KA0, q32KA1, q32KA2, q32KA3⟩ := F32KA.out.four
                    have q32KAl := F32KA.out.lt
                    obtain ⟨q32KB0, q32KB1, q32KB2, q32KB3⟩ := F32KB.out.four
                    have q32KBl := F32KB.out.lt
                    have C33 : Hid _ := nright_any B _ _ _ w31 F32OB.out.r smB
                    rw [rg.out.2] at C33
                    go_wp2_with fail
                    refine Calls.mono C33.out ?_
                    rintro e w33 ⟨rfl, hb33⟩
                    clear C33
                    clear q32KA0 q32KA1 q32KA2 q32KA3 q32KAl q32KB0 q32KB1 q32KB2 q32KB3 q32KBl
                    have B34 : Hid (Below w.heap.size w w33) := B32.out.trans (hb33.mono B32.out.size)
                    have F34KA : Aside (Cl w33 QA #[.bool A.leaf, .slice a25e (A.es.length) c25e, .slice a25k (A.ks.length) c25k, .slice a25s (A.ss.length) c25s] 26) := Cl.on F32KA.out hb33
                    clear F32KA
                    have F34KB : Aside (Cl w33 (QB) #[.bool B.leaf, .slice b25e (B.es.length) d25e, .slice b25k (B.ks.length) d25k, .slice b25s (B.ss.length) d25s] 26) := Cl.on F32KB.out hb33
                    clear F32KB
                    have F34OA : Aside (NdO ZA w33 (.slice a25e (A.es.length) c25e) (.slice a25k (A.ks.length) c25k) (.slice a25s (A.ss.length) c25s) A) := F32OA.out.below hb33
                    clear F32OA
                    have F34OB : Aside (NdO ZA w33 (.slice b25e (B.es.length) d25e) (.slice b25k (B.ks.length) d25k) (.slice b25s (B.ss.length) d25s) B) := F32OB.out.below hb33
                    clear F32OB
                    clear B32
                    clear hb33
                    go_wp2
                    go_ret
                    exact ⟨rfl, B34.out⟩
                  · rintro f a w' ⟨f0, f1, f2, f3, f4, f5, f6, f7, f8, rfl, rfl, _⟩
                    rfl
        · rintro f a w' ⟨f0, f1, f2, f3, f4, f5, rfl, rfl, _⟩
          rfl
      ·
        obtain ⟨er, her, ern⟩ : ∃ er, enE2 ⟨lf, es, ks, ss⟩ = er ∧ er ≠ 0 := by
          refine ⟨_, rfl, ?_⟩
          unfold enE2
          split
          · rename_i hh
            split
            · rename_i hh2
              exact absurd ⟨hh, hh2⟩ fit
            · decide
          · decide
        have HE : Hid _ := her
        have e1 : (er == 0) = false := beq_eq_false_iff_ne.2 ern
        clear her ern fit
        have C7 : Hid _ := nencode_any ⟨lf, es, ks, ss⟩ _ _ _ wo F6N.out sm
        rw [HE.out] at C7
        go_wp2_with fail
        refine Calls.mono C7.out ?_
        rintro e w7 ⟨rfl, hb7⟩
        clear C7
        clear q6P0 q6P1 q6P2 q6P3 q6Pl
        have B8 : Hid (Below w.heap.size w w7) := B6.out.trans (hb7.mono B6.out.size)
        have F8P : Aside (Cl w7 p #[.bool lf, .slice ae es.length ce, .slice ak ks.length ck, .slice az ss.length cz] 26) := Cl.on F6P.out hb7
        clear F6P
        have F8N : Aside (NdR w7 (.slice ae es.length ce) (.slice ak ks.length ck) (.slice az ss.length cz) ⟨lf, es, ks, ss⟩) := F6N.out.below hb7
        clear F6N
        clear B6
        clear hb7
        cases hd : deN kind body.data.toList with
        | none =>
          obtain ⟨d1, d2⟩ := deR_none hd
          obtain ⟨dn, hdn⟩ : ∃ x, nd0 = x := ⟨_, rfl⟩
          rw [hdn] at d1
          have D1 : Hid _ := d1
          have D2 : Hid _ := d2
          clear hd hdn d1 d2
          have C9 : Hid _ := ndecode_is kind body w7 HBm.out dn false D1.out D2.out 3 rfl
          go_wp2_with fail
          refine Calls.mono C9.out ?_
          rintro e v9 ⟨x9e, x9k, x9s, rfl, o9, h9⟩
          clear C9
          obtain ⟨a9e, c9e, rfl, _⟩ := rowShape o9.r.e
          obtain ⟨a9k, c9k, rfl, _⟩ := rowShape o9.r.k
          obtain ⟨a9s, c9s, rfl, _⟩ := rowShape o9.r.s
          have g9 := (belAlloc _ h9 : Below w7.heap.size w7 (v9.alloc (.cells #[.bool dn.leaf, .slice a9e (dn.es.length) c9e, .slice a9k (dn.ks.length) c9k, .slice a9s (dn.ss.length) c9s] 26)))
          have F10KD : Aside (Cl (v9.alloc (.cells #[.bool dn.leaf, .slice a9e (dn.es.length) c9e, .slice a9k (dn.ks.length) c9k, .slice a9s (dn.ss.length) c9s] 26)) v9.heap.size #[.bool dn.leaf, .slice a9e (dn.es.length) c9e, .slice a9k (dn.ks.length) c9k, .slice a9s (dn.ss.length) c9s] 26) := Cl.new _ _ _
          have F11RD : Aside (NdR (v9.alloc (.cells #[.bool dn.leaf, .slice a9e (dn.es.length) c9e, .slice a9k (dn.ks.length) c9k, .slice a9s (dn.ss.length) c9s] 26)) (.slice a9e (dn.es.length) c9e) (.slice a9k (dn.ks.length) c9k) (.slice a9s (dn.ss.length) c9s) dn) := o9.r.below (belAlloc _ (Below.refl _ _))
          have B12 : Hid (Below w.heap.size w (v9.alloc (.cells #[.bool dn.leaf, .slice a9e (dn.es.length) c9e, .slice a9k (dn.ks.length) c9k, .slice a9s (dn.ss.length) c9s] 26))) := B8.out.trans (g9.mono B8.out.size)
          have F12P : Aside (Cl (v9.alloc (.cells #[.bool dn.leaf, .slice a9e (dn.es.length) c9e, .slice a9k (dn.ks.length) c9k, .slice a9s (dn.ss.length) c9s] 26)) p #[.bool lf, .slice ae es.length ce, .slice ak ks.length ck, .slice az ss.length cz] 26) := Cl.on F8P.out g9
          clear F8P
          have F12N : Aside (NdR (v9.alloc (.cells #[.bool dn.leaf, .slice a9e (dn.es.length) c9e, .slice a9k (dn.ks.length) c9k, .slice a9s (dn.ss.length) c9s] 26)) (.slice ae es.length ce) (.slice ak ks.length ck) (.slice az ss.length cz) ⟨lf, es, ks, ss⟩) := F8N.out.below g9
          clear F8N
          clear B8
          clear g9 h9 o9
          go_upto_region 14 with fail
          generalize (v9.alloc (.cells #[.bool dn.leaf, .slice a9e (dn.es.length) c9e, .slice a9k (dn.ks.length) c9k, .slice a9s (dn.ss.length) c9s] 26)) = u9 at *
          generalize v9.heap.size = QD at *
          cases hr3 : rtN ⟨lf, es, ks, ss⟩ with
          | false =>
            obtain ⟨q12P0, q12P1, q12P2, q12P3⟩ := F12P.out.four
            have q12Pl := F12P.out.lt
            have C13 : Hid _ := nright_any ⟨lf, es, ks, ss⟩ _ _ _ u9 F12N.out sm
            rw [hr3] at C13
            go_wp2_with fail
            refine Calls.mono C13.out ?_
            rintro e w13 ⟨rfl, hb13⟩
            clear C13
            clear q12P0 q12P1 q12P2 q12P3 q12Pl
            have B14 : Hid (Below w.heap.size w w13) := B12.out.trans (hb13.mono B12.out.size)
            have F14P : Aside (Cl w13 p #[.bool lf, .slice ae es.length ce, .slice ak ks.length ck, .slice az ss.length cz] 26) := Cl.on F12P.out hb13
            clear F12P
            have F14N : Aside (NdR w13 (.slice ae es.length ce) (.slice ak ks.length ck) (.slice az ss.length cz) ⟨lf, es, ks, ss⟩) := F12N.out.below hb13
            clear F12N
            clear B12
            clear hb13
            clear hr3
            go_wp2
            go_ret
            exact ⟨rfl, B14.out⟩
          | true =>
            obtain ⟨q12P0, q12P1, q12P2, q12P3⟩ := F12P.out.four
            have q12Pl := F12P.out.lt
            have C13 : Hid _ := nright_any ⟨lf, es, ks, ss⟩ _ _ _ u9 F12N.out sm
            rw [hr3] at C13
            go_wp2_with fail
            refine Calls.mono C13.out ?_
            rintro e w13 ⟨rfl, hb13⟩
            clear C13
            clear q12P0 q12P1 q12P2 q12P3 q12Pl
            have B14 : Hid (Below w.heap.size w w13) := B12.out.trans (hb13.mono B12.out.size)
            have F14P : Aside (Cl w13 p #[.bool lf, .slice ae es.length ce, .slice ak ks.length ck, .slice az ss.length cz] 26) := Cl.on F12P.out hb13
            clear F12P
            have F14N : Aside (NdR w13 (.slice ae es.length ce) (.slice ak ks.length ck) (.slice az ss.length cz) ⟨lf, es, ks, ss⟩) := F12N.out.below hb13
            clear F12N
            clear B12
            clear hb13
            obtain ⟨q14P0, q14P1, q14P2, q14P3⟩ := F14P.out.four
            have q14Pl := F14P.out.lt
            have HR : Hid _ := hr3
            clear hr3
            by_cases t1 : es.length < 2 ∧ ks.length < 2
            ·
              have t2 : (es.length : Int) < 2 := by omega
              have t3 : (ks.length : Int) < 2 := by omega
              go_wp2
              go_ret
              exact ⟨rfl, B14.out⟩
            ·
              have en : enN ⟨lf, es, ks, ss⟩ = true := by unfold enN; rw [HR.out]; simp; omega
              have bk : Hid _ := sp_back en
              have rg : Hid _ := sp_right en
              have fu := sp_full en
              have smA := spA_sm sm (n := _)
              have smB := spB_sm sm (n := _)
              have lvs := sp_leaf ⟨lf, es, ks, ss⟩
              have hA : sA ⟨lf, es, ks, ss⟩ = spA ⟨lf, es, ks, ss⟩ := by unfold sA; rw [if_pos en]
              have hM : sM ⟨lf, es, ks, ss⟩ = spM ⟨lf, es, ks, ss⟩ := by unfold sM; rw [if_pos en]
              have hB : sB ⟨lf, es, ks, ss⟩ = spB ⟨lf, es, ks, ss⟩ := by unfold sB; rw [if_pos en]
              obtain ⟨A, eA⟩ : ∃ x, spA ⟨lf, es, ks, ss⟩ = x := ⟨_, rfl⟩
              obtain ⟨mid, eM⟩ : ∃ x, spM ⟨lf, es, ks, ss⟩ = x := ⟨_, rfl⟩
              obtain ⟨B, eB⟩ : ∃ x, spB ⟨lf, es, ks, ss⟩ = x := ⟨_, rfl⟩
              rw [eA] at hA bk rg fu smA lvs
              rw [eB] at hB bk rg fu smB lvs
              rw [eM] at hM bk
              have HA : Hid _ := hA
              have HM : Hid _ := hM
              have HBn : Hid _ := hB
              obtain ⟨f1, f2⟩ := fu
              have f1z : (0 : Int) < (A.es.length : Int) + (A.ks.length : Int) := by omega
              have f2z : (0 : Int) < (B.es.length : Int) + (B.ks.length : Int) := by omega
              have q1 := smA.e
              have q2 := smA.k
              have q3 := smB.e
              have q4 := smB.k
              clear hA hM hB eA eM eB lvs en f1 f2
              have tz : ¬ ((es.length : Int) < 2 ∧ (ks.length : Int) < 2) := by omega
              clear t1
              by_cases t1 : (es.length : Int) < 2
              ·
                have t2 : ¬ (ks.length : Int) < 2 := by omega
                clear tz
                have C15 : Hid _ := split_any ⟨lf, es, ks, ss⟩ _ _ _ w13 F14N.out sm
                rw [HA.out] at C15
                rw [HM.out] at C15
                rw [HBn.out] at C15
                go_wp2_with fail
                refine Calls.mono C15.out ?_
                rintro e v15 ⟨x15e, x15k, x15s, y15e, y15k, y15s, rfl, o15, p15, h15⟩
                clear C15
                obtain ⟨a15e, c15e, rfl⟩ := ownShape (n := A.es.length) o15.e
                obtain ⟨a15k, c15k, rfl⟩ := ownShape (n := A.ks.length) o15.k
                obtain ⟨a15s, c15s, rfl⟩ := ownShape (n := A.ss.length) o15.s
                obtain ⟨b15e, d15e, rfl⟩ := ownShape (n := B.es.length) p15.e
                obtain ⟨b15k, d15k, rfl⟩ := ownShape (n := B.ks.length) p15.k
                obtain ⟨b15s, d15s, rfl⟩ := ownShape (n := B.ss.length) p15.s
                have g15 := (belAlloc _ (belAlloc _ h15) : Below w13.heap.size w13 ((v15.alloc (.cells #[.bool A.leaf, .slice a15e (A.es.length) c15e, .slice a15k (A.ks.length) c15k, .slice a15s (A.ss.length) c15s] 26)).alloc (.cells #[.bool B.leaf, .slice b15e (B.es.length) d15e, .slice b15k (B.ks.length) d15k, .slice b15s (B.ss.length) d15s] 26)))
                have F16KA : Aside (Cl ((v15.alloc (.cells #[.bool A.leaf, .slice a15e (A.es.length) c15e, .slice a15k (A.ks.length) c15k, .slice a15s (A.ss.length) c15s] 26)).alloc (.cells #[.bool B.leaf, .slice b15e (B.es.length) d15e, .slice b15k (B.ks.length) d15k, .slice b15s (B.ss.length) d15s] 26)) v15.heap.size #[.bool A.leaf, .slice a15e (A.es.length) c15e, .slice a15k (A.ks.length) c15k, .slice a15s (A.ss.length) c15s] 26) := (Cl.new0 _ _ _).alloc _
                have F17KB : Aside (Cl ((v15.alloc (.cells #[.bool A.leaf, .slice a15e (A.es.length) c15e, .slice a15k (A.ks.length) c15k, .slice a15s (A.ss.length) c15s] 26)).alloc (.cells #[.bool B.leaf, .slice b15e (B.es.length) d15e, .slice b15k (B.ks.length) d15k, .slice b15s (B.ss.length) d15s] 26)) (v15.heap.size + 1) #[.bool B.leaf, .slice b15e (B.es.length) d15e, .slice b15k (B.ks.length) d15k, .slice b15s (B.ss.length) d15s] 26) := Cl.new1 _ _ _ _
                have F18OA : Aside (NdO w13.heap.size ((v15.alloc (.cells #[.bool A.leaf, .slice a15e (A.es.length) c15e, .slice a15k (A.ks.length) c15k, .slice a15s (A.ss.length) c15s] 26)).alloc (.cells #[.bool B.leaf, .slice b15e (B.es.length) d15e, .slice b15k (B.ks.length) d15k, .slice b15s (B.ss.length) d15s] 26)) (.slice a15e (A.es.length) c15e) (.slice a15k (A.ks.length) c15k) (.slice a15s (A.ss.length) c15s) A) := o15.below (belAlloc _ (belAlloc _ (Below.refl _ _)))
                have F19OB : Aside (NdO w13.heap.size ((v15.alloc (.cells #[.bool A.leaf, .slice a15e (A.es.length) c15e, .slice a15k (A.ks.length) c15k, .slice a15s (A.ss.length) c15s] 26)).alloc (.cells #[.bool B.leaf, .slice b15e (B.es.length) d15e, .slice b15k (B.ks.length) d15k, .slice b15s (B.ss.length) d15s] 26)) (.slice b15e (B.es.length) d15e) (.slice b15k (B.ks.length) d15k) (.slice b15s (B.ss.length) d15s) B) := p15.below (belAlloc _ (belAlloc _ (Below.refl _ _)))
                clear q14P0 q14P1 q14P2 q14P3 q14Pl
                have B20 : Hid (Below w.heap.size w ((v15.alloc (.cells #[.bool A.leaf, .slice a15e (A.es.length) c15e, .slice a15k (A.ks.length) c15k, .slice a15s (A.ss.length) c15s] 26)).alloc (.cells #[.bool B.leaf, .slice b15e (B.es.length) d15e, .slice b15k (B.ks.length) d15k, .slice b15s (B.ss.length) d15s] 26))) := B14.out.trans (g15.mono B14.out.size)
                have F20P : Aside (Cl ((v15.alloc (.cells #[.bool A.leaf, .slice a15e (A.es.length) c15e, .slice a15k (A.ks.length) c15k, .slice a15s (A.ss.length) c15s] 26)).alloc (.cells #[.bool B.leaf, .slice b15e (B.es.length) d15e, .slice b15k (B.ks.length) d15k, .slice b15s (B.ss.length) d15s] 26)) p #[.bool lf, .slice ae es.length ce, .slice ak ks.length ck, .slice az ss.length cz] 26) := Cl.on F14P.out g15
                clear F14P
                have F20N : Aside (NdR ((v15.alloc (.cells #[.bool A.leaf, .slice a15e (A.es.length) c15e, .slice a15k (A.ks.length) c15k, .slice a15s (A.ss.length) c15s] 26)).alloc (.cells #[.bool B.leaf, .slice b15e (B.es.length) d15e, .slice b15k (B.ks.length) d15k, .slice b15s (B.ss.length) d15s] 26)) (.slice ae es.length ce) (.slice ak ks.length ck) (.slice az ss.length cz) ⟨lf, es, ks, ss⟩) := F14N.out.below g15
                clear F14N
                clear B14
                clear g15 h15 o15 p15
                go_upto_region 21 with fail
                generalize ((v15.alloc (.cells #[.bool A.leaf, .slice a15e (A.es.length) c15e, .slice a15k (A.ks.length) c15k, .slice a15s (A.ss.length) c15s] 26)).alloc (.cells #[.bool B.leaf, .slice b15e (B.es.length) d15e, .slice b15k (B.ks.length) d15k, .slice b15s (B.ss.length) d15s] 26)) = u15 at *
                generalize v15.heap.size + 1 = QB at *
                generalize v15.heap.size = QA at *
                generalize w13.heap.size = ZA at *
                refine region_inv 8 (JBk u15 p QA QB lf mid (.agg #[.bool A.leaf, .slice a15e (A.es.length) c15e, .slice a15k (A.ks.length) c15k, .slice a15s (A.ss.length) c15s]) (.agg #[.bool B.leaf, .slice b15e (B.es.length) d15e, .slice b15k (B.ks.length) d15k, .slice b15s (B.ss.length) d15s]) (.agg #[.bool lf, .slice ae es.length ce, .slice ak ks.length ck, .slice az ss.length cz]) es ks ss _ _ _ _ _ _ _ _ _ _ _ _ _ _ _ _ _ _ _ _ _ _ _ _ _ _ _ _ _ _ _ _ _ _ _ _ _ _ _ _ _ _ _ _ _ _ _ _ _ _ _ _ _ _ _ _ _ _ _ _ _ _ _ _ _ _ _ _ _ _ _ _ _ _ _ _ _ _ _ _ _ _ _ _ _ _ _ _ _ _ _ _ _ _ _ _ _ _ _ _ _ _ _ _ _ _ _ _ _ _ _ _ _ _ _ _ _ _ _ _ _ _ _ _ _ _ _ _ _ _ _ _ _ _ _ _ _ _ _ _ _ _ _ _ _ _ _ _ _ _ _) (by kernel_rfl) (by kernel_rfl) (by kernel_rfl) ⟨false, false, false, false, false, false, false, false, false, rfl, rfl, _, _, _, _, _, _, _, _, rfl, (Below.refl _ u15).drew, (fun h => by cases h), (fun h => by cases h), (fun h => by cases h), (fun h => by cases h), (fun h => by cases h), (fun h => by cases h), (fun h => by cases h), (fun h => by cases h)⟩ ?_ ?_ ?_
                · intro i f a w' hne hl hJ
                  refine JBk.elim hJ (C := fun f a w' => i ∈ Region.ready .any _ f.toArray → wpOp _ _ _ i (fun a' w'' => JBk u15 p QA QB lf mid (.agg #[.bool A.leaf, .slice a15e (A.es.length) c15e, .slice a15k (A.ks.length) c15k, .slice a15s (A.ss.length) c15s]) (.agg #[.bool B.leaf, .slice b15e (B.es.length) d15e, .slice b15k (B.ks.length) d15k, .slice b15s (B.ss.length) d15s]) (.agg #[.bool lf, .slice ae es.length ce, .slice ak ks.length ck, .slice az ss.length cz]) es ks ss _ _ _ _ _ _ _ _ _ _ _ _ _ _ _ _ _ _ _ _ _ _ _ _ _ _ _ _ _ _ _ _ _ _ _ _ _ _ _ _ _ _ _ _ _ _ _ _ _ _ _ _ _ _ _ _ _ _ _ _ _ _ _ _ _ _ _ _ _ _ _ _ _ _ _ _ _ _ _ _ _ _ _ _ _ _ _ _ _ _ _ _ _ _ _ _ _ _ _ _ _ _ _ _ _ _ _ _ _ _ _ _ _ _ _ _ _ _ _ _ _ _ _ _ _ _ _ _ _ _ _ _ _ _ _ _ _ _ _ _ _ _ _ _ _ _ _ _ _ _ _ (f.set i true) a' w'') a w') ?_
                  clear hJ hl f a
                  intro f0 f1 f2 f3 f4 f5 f6 f7 f8 x122 x123 x124 x125 x126 x127 x128 x129 e8 hB h0 h1 h2 h3 h4 h5 h6 h7 hi
                  obtain ⟨hlt, hun, _⟩ := ready_mem hi
                  have hlt' : i < 9 := hlt
                  clear hlt
                  rcases (by omega : i = 0 ∨ i = 1 ∨ i = 2 ∨ i = 3 ∨ i = 4 ∨ i = 5 ∨ i = 6 ∨ i = 7) with rfl | rfl | rfl | rfl | rfl | rfl | rfl | rfl
                  · have un : f0 = false := hun
                    clear hun
                    clear hi hne hlt'
                    obtain ⟨i0, i1, i2, i3⟩ := (F16KA.out.on hB).four
                    refine wpOp_step rfl (fun K hK => ?_)
                    have HK : Shut _ := hK
                    clear hK
                    go_simp
                    refine HK.out _ _ ?_
                    exact ⟨true, f1, f2, f3, f4, f5, f6, f7, f8, rfl, e8, _, _, _, _, _, _, _, _, rfl, hB, (fun _ => rfl), h1, h2, h3, h4, h5, h6, h7⟩
                  · have un : f1 = false := hun
                    clear hun
                    clear hi hne hlt'
                    refine wpOp_step rfl (fun K hK => ?_)
                    have HK : Shut _ := hK
                    clear hK
                    go_simp
                    refine HK.out _ _ ?_
                    exact ⟨f0, true, f2, f3, f4, f5, f6, f7, f8, rfl, e8, _, _, _, _, _, _, _, _, rfl, hB, h0, (fun _ => rfl), h2, h3, h4, h5, h6, h7⟩
                  · have un : f2 = false := hun
                    clear hun
                    clear hi hne hlt'
                    obtain ⟨i0, i1, i2, i3⟩ := (F17KB.out.on hB).four
                    refine wpOp_step rfl (fun K hK => ?_)
                    have HK : Shut _ := hK
                    clear hK
                    go_simp
                    refine HK.out _ _ ?_
                    exact ⟨f0, f1, true, f3, f4, f5, f6, f7, f8, rfl, e8, _, _, _, _, _, _, _, _, rfl, hB, h0, h1, (fun _ => rfl), h3, h4, h5, h6, h7⟩
                  · have un : f3 = false := hun
                    clear hun
                    have d0 : f0 = true := ready_dep 0 hi (by kernel_rfl)
                    have y0 := h0.out d0
                    subst y0
                    have d1 : f1 = true := ready_dep 1 hi (by kernel_rfl)
                    have y1 := h1.out d1
                    subst y1
                    have d2 : f2 = true := ready_dep 2 hi (by kernel_rfl)
                    have y2 := h2.out d2
                    subst y2
                    clear hi hne hlt'
                    refine wpOp_step rfl (fun K hK => ?_)
                    have HK : Shut _ := hK
                    clear hK
                    go_simp
                    refine Calls.mono (by
                            have hh := njoin_any mid A B _ _ _ _ _ _ w' (F18OA.out.r.below hB) (F19OB.out.r.below hB) smA.l smB.l
                            rw [bk.out] at hh
                            exact hh) ?_
                    rintro e w1 ⟨x1, x2, x3, rfl, ow, b1⟩
                    obtain ⟨a1, c1, rfl⟩ := ownShape (n := es.length) ow.e
                    obtain ⟨a2, c2, rfl⟩ := ownShape (n := ks.length) ow.k
                    obtain ⟨a3, c3, rfl⟩ := ownShape (n := ss.length) ow.s
                    refine HK.out _ _ ?_
                    exact ⟨f0, f1, f2, true, f4, f5, f6, f7, f8, rfl, e8, _, _, _, _, _, _, _, _, rfl, belCall b1 hB, h0, h1, h2, (fun _ => ⟨a1, c1, a2, c2, a3, c3, rfl, ow.mono hB.size⟩), (fun d => by have e := (h4.out d).1; rw [un] at e; cases e), h5, h6, h7⟩
                  · have un : f4 = false := hun
                    clear hun
                    have d3 : f3 = true := ready_dep 3 hi (by kernel_rfl)
                    obtain ⟨a3e, c3e, a3k, c3k, a3s, c3s, y3, o3⟩ := h3.out d3
                    subst y3
                    clear hi hne hlt'
                    refine wpOp_step rfl (fun K hK => ?_)
                    have HK : Shut _ := hK
                    clear hK
                    go_simp
                    refine Calls.mono (of_any lf _ _ _ w' ⟨lf, es, ks, ss⟩ o3.r) ?_
                    rintro e w1 ⟨rfl, b1⟩
                    refine HK.out _ _ ?_
                    exact ⟨f0, f1, f2, f3, true, f5, f6, f7, f8, rfl, e8, _, _, _, _, _, _, _, _, rfl, belCall b1 hB, h0, h1, h2, (fun d => let ⟨a1, c1, a2, c2, a3, c3, e, o⟩ := h3.out d; ⟨a1, c1, a2, c2, a3, c3, e, o.below (b1)⟩), (fun _ => ⟨d3, rfl⟩), h5, h6, h7⟩
                  · have un : f5 = false := hun
                    clear hun
                    clear hi hne hlt'
                    obtain ⟨i0, i1, i2, i3⟩ := (F20P.out.on hB).four
                    refine wpOp_step rfl (fun K hK => ?_)
                    have HK : Shut _ := hK
                    clear hK
                    go_simp
                    refine HK.out _ _ ?_
                    exact ⟨f0, f1, f2, f3, f4, true, f6, f7, f8, rfl, e8, _, _, _, _, _, _, _, _, rfl, hB, h0, h1, h2, h3, h4, (fun _ => rfl), h6, h7⟩
                  · have un : f6 = false := hun
                    clear hun
                    have d5 : f5 = true := ready_dep 5 hi (by kernel_rfl)
                    have y5 := h5.out d5
                    subst y5
                    clear hi hne hlt'
                    refine wpOp_step rfl (fun K hK => ?_)
                    have HK : Shut _ := hK
                    clear hK
                    go_simp
                    refine Calls.mono (of_any lf _ _ _ w' ⟨lf, es, ks, ss⟩ (F20N.out.below hB)) ?_
                    rintro e w1 ⟨rfl, b1⟩
                    refine HK.out _ _ ?_
                    exact ⟨f0, f1, f2, f3, f4, f5, true, f7, f8, rfl, e8, _, _, _, _, _, _, _, _, rfl, belCall b1 hB, h0, h1, h2, (fun d => let ⟨a1, c1, a2, c2, a3, c3, e, o⟩ := h3.out d; ⟨a1, c1, a2, c2, a3, c3, e, o.below (b1)⟩), h4, h5, (fun _ => rfl), h7⟩
                  · have un : f7 = false := hun
                    clear hun
                    have d4 : f4 = true := ready_dep 4 hi (by kernel_rfl)
                    obtain ⟨u3, y4⟩ := h4.out d4
                    obtain ⟨a3e, c3e, a3k, c3k, a3s, c3s, y3, o3⟩ := h3.out u3
                    subst y3
                    subst y4
                    have d6 : f6 = true := ready_dep 6 hi (by kernel_rfl)
                    have y6 := h6.out d6
                    subst y6
                    clear hi hne hlt'
                    refine wpOp_step rfl (fun K hK => ?_)
                    have HK : Shut _ := hK
                    clear hK
                    go_simp
                    refine Calls.mono (nsame_any ⟨lf, es, ks, ss⟩ _ _ _ _ _ _ w' o3.r (F20N.out.below hB) sm) ?_
                    rintro e w1 ⟨rfl, b1⟩
                    refine HK.out _ _ ?_
                    exact ⟨f0, f1, f2, f3, f4, f5, f6, true, f8, rfl, e8, _, _, _, _, _, _, _, _, rfl, belCall b1 hB, h0, h1, h2, (fun d => let ⟨a1, c1, a2, c2, a3, c3, e, o⟩ := h3.out d; ⟨a1, c1, a2, c2, a3, c3, e, o.below (b1)⟩), h4, h5, h6, (fun _ => rfl)⟩
                · intro f a w' hl hJ
                  refine JBk.elim hJ (C := fun f a w' => 8 ∈ Region.ready .any _ f.toArray → wpOp _ _ _ 8 _ a w') ?_
                  clear hJ hl f a
                  intro f0 f1 f2 f3 f4 f5 f6 f7 f8 x122 x123 x124 x125 x126 x127 x128 x129 e8 hB h0 h1 h2 h3 h4 h5 h6 h7 hi
                  have d7 : f7 = true := ready_dep 7 hi (by kernel_rfl)
                  have y7 := h7.out d7
                  subst y7
                  clear hi
                  refine wpOp_step rfl (fun K hK => ?_)
                  have HK : Shut _ := hK
                  clear hK
                  go_simp
                  refine HK.out _ _ ?_
                  have GA : Aside (Cl w' QA #[.bool A.leaf, .slice a15e (A.es.length) c15e, .slice a15k (A.ks.length) c15k, .slice a15s (A.ss.length) c15s] 26) := F16KA.out.on hB
                  have GB : Aside (Cl w' QB #[.bool B.leaf, .slice b15e (B.es.length) d15e, .slice b15k (B.ks.length) d15k, .slice b15s (B.ss.length) d15s] 26) := F17KB.out.on hB
                  have GRA : Aside (NdO ZA w' (.slice a15e (A.es.length) c15e) (.slice a15k (A.ks.length) c15k) (.slice a15s (A.ss.length) c15s) A) := F18OA.out.below hB
                  have GRB : Aside (NdO ZA w' (.slice b15e (B.es.length) d15e) (.slice b15k (B.ks.length) d15k) (.slice b15s (B.ss.length) d15s) B) := F19OB.out.below hB
                  have BQ : Hid (Below w.heap.size w w') := B20.out.trans (hB.mono B20.out.size)
                  clear h0 h1 h2 h3 h4 h5 h6 h7 hB F16KA F17KB F18OA F19OB F20P F20N B20
                  obtain ⟨q20KA0, q20KA1, q20KA2, q20KA3⟩ := GA.out.four
                  have q20KAl := GA.out.lt
                  obtain ⟨q20KB0, q20KB1, q20KB2, q20KB3⟩ := GB.out.four
                  have q20KBl := GB.out.lt
                  have C21 : Hid _ := nright_any A _ _ _ w' GRA.out.r smA
                  rw [rg.out.1] at C21
                  go_wp2_with fail
                  refine Calls.mono C21.out ?_
                  rintro e w21 ⟨rfl, hb21⟩
                  clear C21
                  clear q20KA0 q20KA1 q20KA2 q20KA3 q20KAl q20KB0 q20KB1 q20KB2 q20KB3 q20KBl
                  have B22 : Hid (Below w.heap.size w w21) := BQ.out.trans (hb21.mono BQ.out.size)
                  have F22KA : Aside (Cl w21 QA #[.bool A.leaf, .slice a15e (A.es.length) c15e, .slice a15k (A.ks.length) c15k, .slice a15s (A.ss.length) c15s] 26) := Cl.on GA.out hb21
                  clear GA
                  have F22KB : Aside (Cl w21 (QB) #[.bool B.leaf, .slice b15e (B.es.length) d15e, .slice b15k (B.ks.length) d15k, .slice b15s (B.ss.length) d15s] 26) := Cl.on GB.out hb21
                  clear GB
                  have F22OA : Aside (NdO ZA w21 (.slice a15e (A.es.length) c15e) (.slice a15k (A.ks.length) c15k) (.slice a15s (A.ss.length) c15s) A) := GRA.out.below hb21
                  clear GRA
                  have F22OB : Aside (NdO ZA w21 (.slice b15e (B.es.length) d15e) (.slice b15k (B.ks.length) d15k) (.slice b15s (B.ss.length) d15s) B) := GRB.out.below hb21
                  clear GRB
                  clear BQ
                  clear hb21
                  obtain ⟨q22KA0, q22KA1, q22KA2, q22KA3⟩ := F22KA.out.four
                  have q22KAl := F22KA.out.lt
                  obtain ⟨q22KB0, q22KB1, q22KB2, q22KB3⟩ := F22KB.out.four
                  have q22KBl := F22KB.out.lt
                  have C23 : Hid _ := nright_any B _ _ _ w21 F22OB.out.r smB
                  rw [rg.out.2] at C23
                  go_wp2_with fail
                  refine Calls.mono C23.out ?_
                  rintro e w23 ⟨rfl, hb23⟩
                  clear C23
                  clear q22KA0 q22KA1 q22KA2 q22KA3 q22KAl q22KB0 q22KB1 q22KB2 q22KB3 q22KBl
                  have B24 : Hid (Below w.heap.size w w23) := B22.out.trans (hb23.mono B22.out.size)
                  have F24KA : Aside (Cl w23 QA #[.bool A.leaf, .slice a15e (A.es.length) c15e, .slice a15k (A.ks.length) c15k, .slice a15s (A.ss.length) c15s] 26) := Cl.on F22KA.out hb23
                  clear F22KA
                  have F24KB : Aside (Cl w23 (QB) #[.bool B.leaf, .slice b15e (B.es.length) d15e, .slice b15k (B.ks.length) d15k, .slice b15s (B.ss.length) d15s] 26) := Cl.on F22KB.out hb23
                  clear F22KB
                  have F24OA : Aside (NdO ZA w23 (.slice a15e (A.es.length) c15e) (.slice a15k (A.ks.length) c15k) (.slice a15s (A.ss.length) c15s) A) := F22OA.out.below hb23
                  clear F22OA
                  have F24OB : Aside (NdO ZA w23 (.slice b15e (B.es.length) d15e) (.slice b15k (B.ks.length) d15k) (.slice b15s (B.ss.length) d15s) B) := F22OB.out.below hb23
                  clear F22OB
                  clear B22
                  clear hb23
                  go_wp2
                  go_ret
                  exact ⟨rfl, B24.out⟩
                · rintro f a w' ⟨f0, f1, f2, f3, f4, f5, f6, f7, f8, rfl, rfl, _⟩
                  rfl
              ·
                clear tz
                have C15 : Hid _ := split_any ⟨lf, es, ks, ss⟩ _ _ _ w13 F14N.out sm
                rw [HA.out] at C15
                rw [HM.out] at C15
                rw [HBn.out] at C15
                go_wp2_with fail
                refine Calls.mono C15.out ?_
                rintro e v15 ⟨x15e, x15k, x15s, y15e, y15k, y15s, rfl, o15, p15, h15⟩
                clear C15
                obtain ⟨a15e, c15e, rfl⟩ := ownShape (n := A.es.length) o15.e
                obtain ⟨a15k, c15k, rfl⟩ := ownShape (n := A.ks.length) o15.k
                obtain ⟨a15s, c15s, rfl⟩ := ownShape (n := A.ss.length) o15.s
                obtain ⟨b15e, d15e, rfl⟩ := ownShape (n := B.es.length) p15.e
                obtain ⟨b15k, d15k, rfl⟩ := ownShape (n := B.ks.length) p15.k
                obtain ⟨b15s, d15s, rfl⟩ := ownShape (n := B.ss.length) p15.s
                have g15 := (belAlloc _ (belAlloc _ h15) : Below w13.heap.size w13 ((v15.alloc (.cells #[.bool A.leaf, .slice a15e (A.es.length) c15e, .slice a15k (A.ks.length) c15k, .slice a15s (A.ss.length) c15s] 26)).alloc (.cells #[.bool B.leaf, .slice b15e (B.es.length) d15e, .slice b15k (B.ks.length) d15k, .slice b15s (B.ss.length) d15s] 26)))
                have F16KA : Aside (Cl ((v15.alloc (.cells #[.bool A.leaf, .slice a15e (A.es.length) c15e, .slice a15k (A.ks.length) c15k, .slice a15s (A.ss.length) c15s] 26)).alloc (.cells #[.bool B.leaf, .slice b15e (B.es.length) d15e, .slice b15k (B.ks.length) d15k, .slice b15s (B.ss.length) d15s] 26)) v15.heap.size #[.bool A.leaf, .slice a15e (A.es.length) c15e, .slice a15k (A.ks.length) c15k, .slice a15s (A.ss.length) c15s] 26) := (Cl.new0 _ _ _).alloc _
                have F17KB : Aside (Cl ((v15.alloc (.cells #[.bool A.leaf, .slice a15e (A.es.length) c15e, .slice a15k (A.ks.length) c15k, .slice a15s (A.ss.length) c15s] 26)).alloc (.cells #[.bool B.leaf, .slice b15e (B.es.length) d15e, .slice b15k (B.ks.length) d15k, .slice b15s (B.ss.length) d15s] 26)) (v15.heap.size + 1) #[.bool B.leaf, .slice b15e (B.es.length) d15e, .slice b15k (B.ks.length) d15k, .slice b15s (B.ss.length) d15s] 26) := Cl.new1 _ _ _ _
                have F18OA : Aside (NdO w13.heap.size ((v15.alloc (.cells #[.bool A.leaf, .slice a15e (A.es.length) c15e, .slice a15k (A.ks.length) c15k, .slice a15s (A.ss.length) c15s] 26)).alloc (.cells #[.bool B.leaf, .slice b15e (B.es.length) d15e, .slice b15k (B.ks.length) d15k, .slice b15s (B.ss.length) d15s] 26)) (.slice a15e (A.es.length) c15e) (.slice a15k (A.ks.length) c15k) (.slice a15s (A.ss.length) c15s) A) := o15.below (belAlloc _ (belAlloc _ (Below.refl _ _)))
                have F19OB : Aside (NdO w13.heap.size ((v15.alloc (.cells #[.bool A.leaf, .slice a15e (A.es.length) c15e, .slice a15k (A.ks.length) c15k, .slice a15s (A.ss.length) c15s] 26)).alloc (.cells #[.bool B.leaf, .slice b15e (B.es.length) d15e, .slice b15k (B.ks.length) d15k, .slice b15s (B.ss.length) d15s] 26)) (.slice b15e (B.es.length) d15e) (.slice b15k (B.ks.length) d15k) (.slice b15s (B.ss.length) d15s) B) := p15.below (belAlloc _ (belAlloc _ (Below.refl _ _)))
                clear q14P0 q14P1 q14P2 q14P3 q14Pl
                have B20 : Hid (Below w.heap.size w ((v15.alloc (.cells #[.bool A.leaf, .slice a15e (A.es.length) c15e, .slice a15k (A.ks.length) c15k, .slice a15s (A.ss.length) c15s] 26)).alloc (.cells #[.bool B.leaf, .slice b15e (B.es.length) d15e, .slice b15k (B.ks.length) d15k, .slice b15s (B.ss.length) d15s] 26))) := B14.out.trans (g15.mono B14.out.size)
                have F20P : Aside (Cl ((v15.alloc (.cells #[.bool A.leaf, .slice a15e (A.es.length) c15e, .slice a15k (A.ks.length) c15k, .slice a15s (A.ss.length) c15s] 26)).alloc (.cells #[.bool B.leaf, .slice b15e (B.es.length) d15e, .slice b15k (B.ks.length) d15k, .slice b15s (B.ss.length) d15s] 26)) p #[.bool lf, .slice ae es.length ce, .slice ak ks.length ck, .slice az ss.length cz] 26) := Cl.on F14P.out g15
                clear F14P
                have F20N : Aside (NdR ((v15.alloc (.cells #[.bool A.leaf, .slice a15e (A.es.length) c15e, .slice a15k (A.ks.length) c15k, .slice a15s (A.ss.length) c15s] 26)).alloc (.cells #[.bool B.leaf, .slice b15e (B.es.length) d15e, .slice b15k (B.ks.length) d15k, .slice b15s (B.ss.length) d15s] 26)) (.slice ae es.length ce) (.slice ak ks.length ck) (.slice az ss.length cz) ⟨lf, es, ks, ss⟩) := F14N.out.below g15
                clear F14N
                clear B14
                clear g15 h15 o15 p15
                go_upto_region 21 with fail
                generalize ((v15.alloc (.cells #[.bool A.leaf, .slice a15e (A.es.length) c15e, .slice a15k (A.ks.length) c15k, .slice a15s (A.ss.length) c15s] 26)).alloc (.cells #[.bool B.leaf, .slice b15e (B.es.length) d15e, .slice b15k (B.ks.length) d15k, .slice b15s (B.ss.length) d15s] 26)) = u15 at *
                generalize v15.heap.size + 1 = QB at *
                generalize v15.heap.size = QA at *
                generalize w13.heap.size = ZA at *
                refine region_inv 8 (JBk u15 p QA QB lf mid (.agg #[.bool A.leaf, .slice a15e (A.es.length) c15e, .slice a15k (A.ks.length) c15k, .slice a15s (A.ss.length) c15s]) (.agg #[.bool B.leaf, .slice b15e (B.es.length) d15e, .slice b15k (B.ks.length) d15k, .slice b15s (B.ss.length) d15s]) (.agg #[.bool lf, .slice ae es.length ce, .slice ak ks.length ck, .slice az ss.length cz]) es ks ss _ _ _ _ _ _ _ _ _ _ _ _ _ _ _ _ _ _ _ _ _ _ _ _ _ _ _ _ _ _ _ _ _ _ _ _ _ _ _ _ _ _ _ _ _ _ _ _ _ _ _ _ _ _ _ _ _ _ _ _ _ _ _ _ _ _ _ _ _ _ _ _ _ _ _ _ _ _ _ _ _ _ _ _ _ _ _ _ _ _ _ _ _ _ _ _ _ _ _ _ _ _ _ _ _ _ _ _ _ _ _ _ _ _ _ _ _ _ _ _ _ _ _ _ _ _ _ _ _ _ _ _ _ _ _ _ _ _ _ _ _ _ _ _ _ _ _ _ _ _ _) (by kernel_rfl) (by kernel_rfl) (by kernel_rfl) ⟨false, false, false, false, false, false, false, false, false, rfl, rfl, _, _, _, _, _, _, _, _, rfl, (Below.refl _ u15).drew, (fun h => by cases h), (fun h => by cases h), (fun h => by cases h), (fun h => by cases h), (fun h => by cases h), (fun h => by cases h), (fun h => by cases h), (fun h => by cases h)⟩ ?_ ?_ ?_
                · intro i f a w' hne hl hJ
                  refine JBk.elim hJ (C := fun f a w' => i ∈ Region.ready .any _ f.toArray → wpOp _ _ _ i (fun a' w'' => JBk u15 p QA QB lf mid (.agg #[.bool A.leaf, .slice a15e (A.es.length) c15e, .slice a15k (A.ks.length) c15k, .slice a15s (A.ss.length) c15s]) (.agg #[.bool B.leaf, .slice b15e (B.es.length) d15e, .slice b15k (B.ks.length) d15k, .slice b15s (B.ss.length) d15s]) (.agg #[.bool lf, .slice ae es.length ce, .slice ak ks.length ck, .slice az ss.length cz]) es ks ss _ _ _ _ _ _ _ _ _ _ _ _ _ _ _ _ _ _ _ _ _ _ _ _ _ _ _ _ _ _ _ _ _ _ _ _ _ _ _ _ _ _ _ _ _ _ _ _ _ _ _ _ _ _ _ _ _ _ _ _ _ _ _ _ _ _ _ _ _ _ _ _ _ _ _ _ _ _ _ _ _ _ _ _ _ _ _ _ _ _ _ _ _ _ _ _ _ _ _ _ _ _ _ _ _ _ _ _ _ _ _ _ _ _ _ _ _ _ _ _ _ _ _ _ _ _ _ _ _ _ _ _ _ _ _ _ _ _ _ _ _ _ _ _ _ _ _ _ _ _ _ (f.set i true) a' w'') a w') ?_
                  clear hJ hl f a
                  intro f0 f1 f2 f3 f4 f5 f6 f7 f8 x122 x123 x124 x125 x126 x127 x128 x129 e8 hB h0 h1 h2 h3 h4 h5 h6 h7 hi
                  obtain ⟨hlt, hun, _⟩ := ready_mem hi
                  have hlt' : i < 9 := hlt
                  clear hlt
                  rcases (by omega : i = 0 ∨ i = 1 ∨ i = 2 ∨ i = 3 ∨ i = 4 ∨ i = 5 ∨ i = 6 ∨ i = 7) with rfl | rfl | rfl | rfl | rfl | rfl | rfl | rfl
                  · have un : f0 = false := hun
                    clear hun
                    clear hi hne hlt'
                    obtain ⟨i0, i1, i2, i3⟩ := (F16KA.out.on hB).four
                    refine wpOp_step rfl (fun K hK => ?_)
                    have HK : Shut _ := hK
                    clear hK
                    go_simp
                    refine HK.out _ _ ?_
                    exact ⟨true, f1, f2, f3, f4, f5, f6, f7, f8, rfl, e8, _, _, _, _, _, _, _, _, rfl, hB, (fun _ => rfl), h1, h2, h3, h4, h5, h6, h7⟩
                  · have un : f1 = false := hun
                    clear hun
                    clear hi hne hlt'
                    refine wpOp_step rfl (fun K hK => ?_)
                    have HK : Shut _ := hK
                    clear hK
                    go_simp
                    refine HK.out _ _ ?_
                    exact ⟨f0, true, f2, f3, f4, f5, f6, f7, f8, rfl, e8, _, _, _, _, _, _, _, _, rfl, hB, h0, (fun _ => rfl), h2, h3, h4, h5, h6, h7⟩
                  · have un : f2 = false := hun
                    clear hun
                    clear hi hne hlt'
                    obtain ⟨i0, i1, i2, i3⟩ := (F17KB.out.on hB).four
                    refine wpOp_step rfl (fun K hK => ?_)
                    have HK : Shut _ := hK
                    clear hK
                    go_simp
                    refine HK.out _ _ ?_
                    exact ⟨f0, f1, true, f3, f4, f5, f6, f7, f8, rfl, e8, _, _, _, _, _, _, _, _, rfl, hB, h0, h1, (fun _ => rfl), h3, h4, h5, h6, h7⟩
                  · have un : f3 = false := hun
                    clear hun
                    have d0 : f0 = true := ready_dep 0 hi (by kernel_rfl)
                    have y0 := h0.out d0
                    subst y0
                    have d1 : f1 = true := ready_dep 1 hi (by kernel_rfl)
                    have y1 := h1.out d1
                    subst y1
                    have d2 : f2 = true := ready_dep 2 hi (by kernel_rfl)
                    have y2 := h2.out d2
                    subst y2
                    clear hi hne hlt'
                    refine wpOp_step rfl (fun K hK => ?_)
                    have HK : Shut _ := hK
                    clear hK
                    go_simp
                    refine Calls.mono (by
                            have hh := njoin_any mid A B _ _ _ _ _ _ w' (F18OA.out.r.below hB) (F19OB.out.r.below hB) smA.l smB.l
                            rw [bk.out] at hh
                            exact hh) ?_
                    rintro e w1 ⟨x1, x2, x3, rfl, ow, b1⟩
                    obtain ⟨a1, c1, rfl⟩ := ownShape (n := es.length) ow.e
                    obtain ⟨a2, c2, rfl⟩ := ownShape (n := ks.length) ow.k
                    obtain ⟨a3, c3, rfl⟩ := ownShape (n := ss.length) ow.s
                    refine HK.out _ _ ?_
                    exact ⟨f0, f1, f2, true, f4, f5, f6, f7, f8, rfl, e8, _, _, _, _, _, _, _, _, rfl, belCall b1 hB, h0, h1, h2, (fun _ => ⟨a1, c1, a2, c2, a3, c3, rfl, ow.mono hB.size⟩), (fun d => by have e := (h4.out d).1; rw [un] at e; cases e), h5, h6, h7⟩
                  · have un : f4 = false := hun
                    clear hun
                    have d3 : f3 = true := ready_dep 3 hi (by kernel_rfl)
                    obtain ⟨a3e, c3e, a3k, c3k, a3s, c3s, y3, o3⟩ := h3.out d3
                    subst y3
                    clear hi hne hlt'
                    refine wpOp_step rfl (fun K hK => ?_)
                    have HK : Shut _ := hK
                    clear hK
                    go_simp
                    refine Calls.mono (of_any lf _ _ _ w' ⟨lf, es, ks, ss⟩ o3.r) ?_
                    rintro e w1 ⟨rfl, b1⟩
                    refine HK.out _ _ ?_
                    exact ⟨f0, f1, f2, f3, true, f5, f6, f7, f8, rfl, e8, _, _, _, _, _, _, _, _, rfl, belCall b1 hB, h0, h1, h2, (fun d => let ⟨a1, c1, a2, c2, a3, c3, e, o⟩ := h3.out d; ⟨a1, c1, a2, c2, a3, c3, e, o.below (b1)⟩), (fun _ => ⟨d3, rfl⟩), h5, h6, h7⟩
                  · have un : f5 = false := hun
                    clear hun
                    clear hi hne hlt'
                    obtain ⟨i0, i1, i2, i3⟩ := (F20P.out.on hB).four
                    refine wpOp_step rfl (fun K hK => ?_)
                    have HK : Shut _ := hK
                    clear hK
                    go_simp
                    refine HK.out _ _ ?_
                    exact ⟨f0, f1, f2, f3, f4, true, f6, f7, f8, rfl, e8, _, _, _, _, _, _, _, _, rfl, hB, h0, h1, h2, h3, h4, (fun _ => rfl), h6, h7⟩
                  · have un : f6 = false := hun
                    clear hun
                    have d5 : f5 = true := ready_dep 5 hi (by kernel_rfl)
                    have y5 := h5.out d5
                    subst y5
                    clear hi hne hlt'
                    refine wpOp_step rfl (fun K hK => ?_)
                    have HK : Shut _ := hK
                    clear hK
                    go_simp
                    refine Calls.mono (of_any lf _ _ _ w' ⟨lf, es, ks, ss⟩ (F20N.out.below hB)) ?_
                    rintro e w1 ⟨rfl, b1⟩
                    refine HK.out _ _ ?_
                    exact ⟨f0, f1, f2, f3, f4, f5, true, f7, f8, rfl, e8, _, _, _, _, _, _, _, _, rfl, belCall b1 hB, h0, h1, h2, (fun d => let ⟨a1, c1, a2, c2, a3, c3, e, o⟩ := h3.out d; ⟨a1, c1, a2, c2, a3, c3, e, o.below (b1)⟩), h4, h5, (fun _ => rfl), h7⟩
                  · have un : f7 = false := hun
                    clear hun
                    have d4 : f4 = true := ready_dep 4 hi (by kernel_rfl)
                    obtain ⟨u3, y4⟩ := h4.out d4
                    obtain ⟨a3e, c3e, a3k, c3k, a3s, c3s, y3, o3⟩ := h3.out u3
                    subst y3
                    subst y4
                    have d6 : f6 = true := ready_dep 6 hi (by kernel_rfl)
                    have y6 := h6.out d6
                    subst y6
                    clear hi hne hlt'
                    refine wpOp_step rfl (fun K hK => ?_)
                    have HK : Shut _ := hK
                    clear hK
                    go_simp
                    refine Calls.mono (nsame_any ⟨lf, es, ks, ss⟩ _ _ _ _ _ _ w' o3.r (F20N.out.below hB) sm) ?_
                    rintro e w1 ⟨rfl, b1⟩
                    refine HK.out _ _ ?_
                    exact ⟨f0, f1, f2, f3, f4, f5, f6, true, f8, rfl, e8, _, _, _, _, _, _, _, _, rfl, belCall b1 hB, h0, h1, h2, (fun d => let ⟨a1, c1, a2, c2, a3, c3, e, o⟩ := h3.out d; ⟨a1, c1, a2, c2, a3, c3, e, o.below (b1)⟩), h4, h5, h6, (fun _ => rfl)⟩
                · intro f a w' hl hJ
                  refine JBk.elim hJ (C := fun f a w' => 8 ∈ Region.ready .any _ f.toArray → wpOp _ _ _ 8 _ a w') ?_
                  clear hJ hl f a
                  intro f0 f1 f2 f3 f4 f5 f6 f7 f8 x122 x123 x124 x125 x126 x127 x128 x129 e8 hB h0 h1 h2 h3 h4 h5 h6 h7 hi
                  have d7 : f7 = true := ready_dep 7 hi (by kernel_rfl)
                  have y7 := h7.out d7
                  subst y7
                  clear hi
                  refine wpOp_step rfl (fun K hK => ?_)
                  have HK : Shut _ := hK
                  clear hK
                  go_simp
                  refine HK.out _ _ ?_
                  have GA : Aside (Cl w' QA #[.bool A.leaf, .slice a15e (A.es.length) c15e, .slice a15k (A.ks.length) c15k, .slice a15s (A.ss.length) c15s] 26) := F16KA.out.on hB
                  have GB : Aside (Cl w' QB #[.bool B.leaf, .slice b15e (B.es.length) d15e, .slice b15k (B.ks.length) d15k, .slice b15s (B.ss.length) d15s] 26) := F17KB.out.on hB
                  have GRA : Aside (NdO ZA w' (.slice a15e (A.es.length) c15e) (.slice a15k (A.ks.length) c15k) (.slice a15s (A.ss.length) c15s) A) := F18OA.out.below hB
                  have GRB : Aside (NdO ZA w' (.slice b15e (B.es.length) d15e) (.slice b15k (B.ks.length) d15k) (.slice b15s (B.ss.length) d15s) B) := F19OB.out.below hB
                  have BQ : Hid (Below w.heap.size w w') := B20.out.trans (hB.mono B20.out.size)
                  clear h0 h1 h2 h3 h4 h5 h6 h7 hB F16KA F17KB F18OA F19OB F20P F20N B20
                  obtain ⟨q20KA0, q20KA1, q20KA2, q20KA3⟩ := GA.out.four
                  have q20KAl := GA.out.lt
                  obtain ⟨q20KB0, q20KB1, q20KB2, q20KB3⟩ := GB.out.four
                  have q20KBl := GB.out.lt
                  have C21 : Hid _ := nright_any A _ _ _ w' GRA.out.r smA
                  rw [rg.out.1] at C21
                  go_wp2_with fail
                  refine Calls.mono C21.out ?_
                  rintro e w21 ⟨rfl, hb21⟩
                  clear C21
                  clear q20KA0 q20KA1 q20KA2 q20KA3 q20KAl q20KB0 q20KB1 q20KB2 q20KB3 q20KBl
                  have B22 : Hid (Below w.heap.size w w21) := BQ.out.trans (hb21.mono BQ.out.size)
                  have F22KA : Aside (Cl w21 QA #[.bool A.leaf, .slice a15e (A.es.length) c15e, .slice a15k (A.ks.length) c15k, .slice a15s (A.ss.length) c15s] 26) := Cl.on GA.out hb21
                  clear GA
                  have F22KB : Aside (Cl w21 (QB) #[.bool B.leaf, .slice b15e (B.es.length) d15e, .slice b15k (B.ks.length) d15k, .slice b15s (B.ss.length) d15s] 26) := Cl.on GB.out hb21
                  clear GB
                  have F22OA : Aside (NdO ZA w21 (.slice a15e (A.es.length) c15e) (.slice a15k (A.ks.length) c15k) (.slice a15s (A.ss.length) c15s) A) := GRA.out.below hb21
                  clear GRA
                  have F22OB : Aside (NdO ZA w21 (.slice b15e (B.es.length) d15e) (.slice b15k (B.ks.length) d15k) (.slice b15s (B.ss.length) d15s) B) := GRB.out.below hb21
                  clear GRB
                  clear BQ
                  clear hb21
                  obtain ⟨q22KA0, q22KA1, q22KA2, q22KA3⟩ := F22KA.out.four
                  have q22KAl := F22KA.out.lt
                  obtain ⟨q22KB0, q22KB1, q22KB2, q22KB3⟩ := F22KB.out.four
                  have q22KBl := F22KB.out.lt
                  have C23 : Hid _ := nright_any B _ _ _ w21 F22OB.out.r smB
                  rw [rg.out.2] at C23
                  go_wp2_with fail
                  refine Calls.mono C23.out ?_
                  rintro e w23 ⟨rfl, hb23⟩
                  clear C23
                  clear q22KA0 q22KA1 q22KA2 q22KA3 q22KAl q22KB0 q22KB1 q22KB2 q22KB3 q22KBl
                  have B24 : Hid (Below w.heap.size w w23) := B22.out.trans (hb23.mono B22.out.size)
                  have F24KA : Aside (Cl w23 QA #[.bool A.leaf, .slice a15e (A.es.length) c15e, .slice a15k (A.ks.length) c15k, .slice a15s (A.ss.length) c15s] 26) := Cl.on F22KA.out hb23
                  clear F22KA
                  have F24KB : Aside (Cl w23 (QB) #[.bool B.leaf, .slice b15e (B.es.length) d15e, .slice b15k (B.ks.length) d15k, .slice b15s (B.ss.length) d15s] 26) := Cl.on F22KB.out hb23
                  clear F22KB
                  have F24OA : Aside (NdO ZA w23 (.slice a15e (A.es.length) c15e) (.slice a15k (A.ks.length) c15k) (.slice a15s (A.ss.length) c15s) A) := F22OA.out.below hb23
                  clear F22OA
                  have F24OB : Aside (NdO ZA w23 (.slice b15e (B.es.length) d15e) (.slice b15k (B.ks.length) d15k) (.slice b15s (B.ss.length) d15s) B) := F22OB.out.below hb23
                  clear F22OB
                  clear B22
                  clear hb23
                  go_wp2
                  go_ret
                  exact ⟨rfl, B24.out⟩
                · rintro f a w' ⟨f0, f1, f2, f3, f4, f5, f6, f7, f8, rfl, rfl, _⟩
                  rfl
        | some dn =>
          obtain ⟨d1, d2⟩ := deR_some hd
          obtain ⟨x1, x2, x3, x4⟩ := deN_some hd
          have sd := sm_fits x1 x2
          obtain ⟨y1, y2, y3⟩ := en_yes x1 x2
          have y4 : enS dn = body := by rw [y2, x3]
          have y5 : enK dn = kind := by rw [y1, x4]
          have y6 : fiN dn = true := by unfold fiN; rw [x1]; simp [x2]
          have D1 : Hid _ := d1
          have D2 : Hid _ := d2
          have Y3 : Hid _ := y3
          have Y4 : Hid _ := y4
          have Y5 : Hid _ := y5
          have Y6 : Hid _ := y6
          clear d1 d2 x1 x2 x3 x4 y1 y2 y3 y4 y5 y6 hd
          have C9 : Hid _ := ndecode_is kind body w7 HBm.out dn true D1.out D2.out 0 rfl
          go_wp2_with fail
          refine Calls.mono C9.out ?_
          rintro e v9 ⟨x9e, x9k, x9s, rfl, o9, h9⟩
          clear C9
          obtain ⟨a9e, c9e, rfl, _⟩ := rowShape o9.r.e
          obtain ⟨a9k, c9k, rfl, _⟩ := rowShape o9.r.k
          obtain ⟨a9s, c9s, rfl, _⟩ := rowShape o9.r.s
          have g9 := (belAlloc _ h9 : Below w7.heap.size w7 (v9.alloc (.cells #[.bool dn.leaf, .slice a9e (dn.es.length) c9e, .slice a9k (dn.ks.length) c9k, .slice a9s (dn.ss.length) c9s] 26)))
          have F10KD : Aside (Cl (v9.alloc (.cells #[.bool dn.leaf, .slice a9e (dn.es.length) c9e, .slice a9k (dn.ks.length) c9k, .slice a9s (dn.ss.length) c9s] 26)) v9.heap.size #[.bool dn.leaf, .slice a9e (dn.es.length) c9e, .slice a9k (dn.ks.length) c9k, .slice a9s (dn.ss.length) c9s] 26) := Cl.new _ _ _
          have F11RD : Aside (NdR (v9.alloc (.cells #[.bool dn.leaf, .slice a9e (dn.es.length) c9e, .slice a9k (dn.ks.length) c9k, .slice a9s (dn.ss.length) c9s] 26)) (.slice a9e (dn.es.length) c9e) (.slice a9k (dn.ks.length) c9k) (.slice a9s (dn.ss.length) c9s) dn) := o9.r.below (belAlloc _ (Below.refl _ _))
          have B12 : Hid (Below w.heap.size w (v9.alloc (.cells #[.bool dn.leaf, .slice a9e (dn.es.length) c9e, .slice a9k (dn.ks.length) c9k, .slice a9s (dn.ss.length) c9s] 26))) := B8.out.trans (g9.mono B8.out.size)
          have F12P : Aside (Cl (v9.alloc (.cells #[.bool dn.leaf, .slice a9e (dn.es.length) c9e, .slice a9k (dn.ks.length) c9k, .slice a9s (dn.ss.length) c9s] 26)) p #[.bool lf, .slice ae es.length ce, .slice ak ks.length ck, .slice az ss.length cz] 26) := Cl.on F8P.out g9
          clear F8P
          have F12N : Aside (NdR (v9.alloc (.cells #[.bool dn.leaf, .slice a9e (dn.es.length) c9e, .slice a9k (dn.ks.length) c9k, .slice a9s (dn.ss.length) c9s] 26)) (.slice ae es.length ce) (.slice ak ks.length ck) (.slice az ss.length cz) ⟨lf, es, ks, ss⟩) := F8N.out.below g9
          clear F8N
          clear B8
          clear g9 h9 o9
          go_upto_region 15 with fail
          generalize (v9.alloc (.cells #[.bool dn.leaf, .slice a9e (dn.es.length) c9e, .slice a9k (dn.ks.length) c9k, .slice a9s (dn.ss.length) c9s] 26)) = u9 at *
          generalize v9.heap.size = QD at *
          obtain ⟨q12KD0, q12KD1, q12KD2, q12KD3⟩ := F10KD.out.four
          have q12KDl := F10KD.out.lt
          have C13 : Hid _ := nencode_any dn _ _ _ u9 F11RD.out sd
          rw [Y5.out] at C13
          rw [Y4.out] at C13
          rw [Y3.out] at C13
          go_wp2_with fail
          refine Calls.mono C13.out ?_
          rintro e w13 ⟨rfl, hb13⟩
          clear C13
          clear q12KD0 q12KD1 q12KD2 q12KD3 q12KDl
          have B14 : Hid (Below w.heap.size w w13) := B12.out.trans (hb13.mono B12.out.size)
          have F14P : Aside (Cl w13 p #[.bool lf, .slice ae es.length ce, .slice ak ks.length ck, .slice az ss.length cz] 26) := Cl.on F12P.out hb13
          clear F12P
          have F14N : Aside (NdR w13 (.slice ae es.length ce) (.slice ak ks.length ck) (.slice az ss.length cz) ⟨lf, es, ks, ss⟩) := F12N.out.below hb13
          clear F12N
          have F14KD : Aside (Cl w13 QD #[.bool dn.leaf, .slice a9e (dn.es.length) c9e, .slice a9k (dn.ks.length) c9k, .slice a9s (dn.ss.length) c9s] 26) := Cl.on F10KD.out hb13
          clear F10KD
          have F14RD : Aside (NdR w13 (.slice a9e (dn.es.length) c9e) (.slice a9k (dn.ks.length) c9k) (.slice a9s (dn.ss.length) c9s) dn) := F11RD.out.below hb13
          clear F11RD
          clear B12
          clear hb13
          obtain ⟨q14KD0, q14KD1, q14KD2, q14KD3⟩ := F14KD.out.four
          have q14KDl := F14KD.out.lt
          have C15 : Hid _ := fits_any dn _ _ _ w13 F14RD.out sd
          rw [Y6.out] at C15
          go_wp2_with fail
          refine Calls.mono C15.out ?_
          rintro e w15 ⟨rfl, hb15⟩
          clear C15
          clear q14KD0 q14KD1 q14KD2 q14KD3 q14KDl
          have B16 : Hid (Below w.heap.size w w15) := B14.out.trans (hb15.mono B14.out.size)
          have F16P : Aside (Cl w15 p #[.bool lf, .slice ae es.length ce, .slice ak ks.length ck, .slice az ss.length cz] 26) := Cl.on F14P.out hb15
          clear F14P
          have F16N : Aside (NdR w15 (.slice ae es.length ce) (.slice ak ks.length ck) (.slice az ss.length cz) ⟨lf, es, ks, ss⟩) := F14N.out.below hb15
          clear F14N
          have F16KD : Aside (Cl w15 QD #[.bool dn.leaf, .slice a9e (dn.es.length) c9e, .slice a9k (dn.ks.length) c9k, .slice a9s (dn.ss.length) c9s] 26) := Cl.on F14KD.out hb15
          clear F14KD
          have F16RD : Aside (NdR w15 (.slice a9e (dn.es.length) c9e) (.slice a9k (dn.ks.length) c9k) (.slice a9s (dn.ss.length) c9s) dn) := F14RD.out.below hb15
          clear F14RD
          clear B14
          clear hb15
          cases hr3 : rtN ⟨lf, es, ks, ss⟩ with
          | false =>
            obtain ⟨q16P0, q16P1, q16P2, q16P3⟩ := F16P.out.four
            have q16Pl := F16P.out.lt
            have C17 : Hid _ := nright_any ⟨lf, es, ks, ss⟩ _ _ _ w15 F16N.out sm
            rw [hr3] at C17
            go_wp2_with fail
            refine Calls.mono C17.out ?_
            rintro e w17 ⟨rfl, hb17⟩
            clear C17
            clear q16P0 q16P1 q16P2 q16P3 q16Pl
            have B18 : Hid (Below w.heap.size w w17) := B16.out.trans (hb17.mono B16.out.size)
            have F18P : Aside (Cl w17 p #[.bool lf, .slice ae es.length ce, .slice ak ks.length ck, .slice az ss.length cz] 26) := Cl.on F16P.out hb17
            clear F16P
            have F18N : Aside (NdR w17 (.slice ae es.length ce) (.slice ak ks.length ck) (.slice az ss.length cz) ⟨lf, es, ks, ss⟩) := F16N.out.below hb17
            clear F16N
            clear B16
            clear hb17
            clear hr3
            go_wp2
            go_ret
            exact ⟨rfl, B18.out⟩
          | true =>
            obtain ⟨q16P0, q16P1, q16P2, q16P3⟩ := F16P.out.four
            have q16Pl := F16P.out.lt
            have C17 : Hid _ := nright_any ⟨lf, es, ks, ss⟩ _ _ _ w15 F16N.out sm
            rw [hr3] at C17
            go_wp2_with fail
            refine Calls.mono C17.out ?_
            rintro e w17 ⟨rfl, hb17⟩
            clear C17
            clear q16P0 q16P1 q16P2 q16P3 q16Pl
            have B18 : Hid (Below w.heap.size w w17) := B16.out.trans (hb17.mono B16.out.size)
            have F18P : Aside (Cl w17 p #[.bool lf, .slice ae es.length ce, .slice ak ks.length ck, .slice az ss.length cz] 26) := Cl.on F16P.out hb17
            clear F16P
            have F18N : Aside (NdR w17 (.slice ae es.length ce) (.slice ak ks.length ck) (.slice az ss.length cz) ⟨lf, es, ks, ss⟩) := F16N.out.below hb17
            clear F16N
            clear B16
            clear hb17
            obtain ⟨q18P0, q18P1, q18P2, q18P3⟩ := F18P.out.four
            have q18Pl := F18P.out.lt
            have HR : Hid _ := hr3
            clear hr3
            by_cases t1 : es.length < 2 ∧ ks.length < 2
            ·
              have t2 : (es.length : Int) < 2 := by omega
              have t3 : (ks.length : Int) < 2 := by omega
              go_wp2
              go_ret
              exact ⟨rfl, B18.out⟩
            ·
              have en : enN ⟨lf, es, ks, ss⟩ = true := by unfold enN; rw [HR.out]; simp; omega
              have bk : Hid _ := sp_back en
              have rg : Hid _ := sp_right en
              have fu := sp_full en
              have smA := spA_sm sm (n := _)
              have smB := spB_sm sm (n := _)
              have lvs := sp_leaf ⟨lf, es, ks, ss⟩
              have hA : sA ⟨lf, es, ks, ss⟩ = spA ⟨lf, es, ks, ss⟩ := by unfold sA; rw [if_pos en]
              have hM : sM ⟨lf, es, ks, ss⟩ = spM ⟨lf, es, ks, ss⟩ := by unfold sM; rw [if_pos en]
              have hB : sB ⟨lf, es, ks, ss⟩ = spB ⟨lf, es, ks, ss⟩ := by unfold sB; rw [if_pos en]
              obtain ⟨A, eA⟩ : ∃ x, spA ⟨lf, es, ks, ss⟩ = x := ⟨_, rfl⟩
              obtain ⟨mid, eM⟩ : ∃ x, spM ⟨lf, es, ks, ss⟩ = x := ⟨_, rfl⟩
              obtain ⟨B, eB⟩ : ∃ x, spB ⟨lf, es, ks, ss⟩ = x := ⟨_, rfl⟩
              rw [eA] at hA bk rg fu smA lvs
              rw [eB] at hB bk rg fu smB lvs
              rw [eM] at hM bk
              have HA : Hid _ := hA
              have HM : Hid _ := hM
              have HBn : Hid _ := hB
              obtain ⟨f1, f2⟩ := fu
              have f1z : (0 : Int) < (A.es.length : Int) + (A.ks.length : Int) := by omega
              have f2z : (0 : Int) < (B.es.length : Int) + (B.ks.length : Int) := by omega
              have q1 := smA.e
              have q2 := smA.k
              have q3 := smB.e
              have q4 := smB.k
              clear hA hM hB eA eM eB lvs en f1 f2
              have tz : ¬ ((es.length : Int) < 2 ∧ (ks.length : Int) < 2) := by omega
              clear t1
              by_cases t1 : (es.length : Int) < 2
              ·
                have t2 : ¬ (ks.length : Int) < 2 := by omega
                clear tz
                have C19 : Hid _ := split_any ⟨lf, es, ks, ss⟩ _ _ _ w17 F18N.out sm
                rw [HA.out] at C19
                rw [HM.out] at C19
                rw [HBn.out] at C19
                go_wp2_with fail
                refine Calls.mono C19.out ?_
                rintro e v19 ⟨x19e, x19k, x19s, y19e, y19k, y19s, rfl, o19, p19, h19⟩
                clear C19
                obtain ⟨a19e, c19e, rfl⟩ := ownShape (n := A.es.length) o19.e
                obtain ⟨a19k, c19k, rfl⟩ := ownShape (n := A.ks.length) o19.k
                obtain ⟨a19s, c19s, rfl⟩ := ownShape (n := A.ss.length) o19.s
                obtain ⟨b19e, d19e, rfl⟩ := ownShape (n := B.es.length) p19.e
                obtain ⟨b19k, d19k, rfl⟩ := ownShape (n := B.ks.length) p19.k
                obtain ⟨b19s, d19s, rfl⟩ := ownShape (n := B.ss.length) p19.s
                have g19 := (belAlloc _ (belAlloc _ h19) : Below w17.heap.size w17 ((v19.alloc (.cells #[.bool A.leaf, .slice a19e (A.es.length) c19e, .slice a19k (A.ks.length) c19k, .slice a19s (A.ss.length) c19s] 26)).alloc (.cells #[.bool B.leaf, .slice b19e (B.es.length) d19e, .slice b19k (B.ks.length) d19k, .slice b19s (B.ss.length) d19s] 26)))
                have F20KA : Aside (Cl ((v19.alloc (.cells #[.bool A.leaf, .slice a19e (A.es.length) c19e, .slice a19k (A.ks.length) c19k, .slice a19s (A.ss.length) c19s] 26)).alloc (.cells #[.bool B.leaf, .slice b19e (B.es.length) d19e, .slice b19k (B.ks.length) d19k, .slice b19s (B.ss.length) d19s] 26)) v19.heap.size #[.bool A.leaf, .slice a19e (A.es.length) c19e, .slice a19k (A.ks.length) c19k, .slice a19s (A.ss.length) c19s] 26) := (Cl.new0 _ _ _).alloc _
                have F21KB : Aside (Cl ((v19.alloc (.cells #[.bool A.leaf, .slice a19e (A.es.length) c19e, .slice a19k (A.ks.length) c19k, .slice a19s (A.ss.length) c19s] 26)).alloc (.cells #[.bool B.leaf, .slice b19e (B.es.length) d19e, .slice b19k (B.ks.length) d19k, .slice b19s (B.ss.length) d19s] 26)) (v19.heap.size + 1) #[.bool B.leaf, .slice b19e (B.es.length) d19e, .slice b19k (B.ks.length) d19k, .slice b19s (B.ss.length) d19s] 26) := Cl.new1 _ _ _ _
                have F22OA : Aside (NdO w17.heap.size ((v19.alloc (.cells #[.bool A.leaf, .slice a19e (A.es.length) c19e, .slice a19k (A.ks.length) c19k, .slice a19s (A.ss.length) c19s] 26)).alloc (.cells #[.bool B.leaf, .slice b19e (B.es.length) d19e, .slice b19k (B.ks.length) d19k, .slice b19s (B.ss.length) d19s] 26)) (.slice a19e (A.es.length) c19e) (.slice a19k (A.ks.length) c19k) (.slice a19s (A.ss.length) c19s) A) := o19.below (belAlloc _ (belAlloc _ (Below.refl _ _)))
                have F23OB : Aside (NdO w17.heap.size ((v19.alloc (.cells #[.bool A.leaf, .slice a19e (A.es.length) c19e, .slice a19k (A.ks.length) c19k, .slice a19s (A.ss.length) c19s] 26)).alloc (.cells #[.bool B.leaf, .slice b19e (B.es.length) d19e, .slice b19k (B.ks.length) d19k, .slice b19s (B.ss.length) d19s] 26)) (.slice b19e (B.es.length) d19e) (.slice b19k (B.ks.length) d19k) (.slice b19s (B.ss.length) d19s) B) := p19.below (belAlloc _ (belAlloc _ (Below.refl _ _)))
                clear q18P0 q18P1 q18P2 q18P3 q18Pl
                have B24 : Hid (Below w.heap.size w ((v19.alloc (.cells #[.bool A.leaf, .slice a19e (A.es.length) c19e, .slice a19k (A.ks.length) c19k, .slice a19s (A.ss.length) c19s] 26)).alloc (.cells #[.bool B.leaf, .slice b19e (B.es.length) d19e, .slice b19k (B.ks.length) d19k, .slice b19s (B.ss.length) d19s] 26))) := B18.out.trans (g19.mono B18.out.size)
                have F24P : Aside (Cl ((v19.alloc (.cells #[.bool A.leaf, .slice a19e (A.es.length) c19e, .slice a19k (A.ks.length) c19k, .slice a19s (A.ss.length) c19s] 26)).alloc (.cells #[.bool B.leaf, .slice b19e (B.es.length) d19e, .slice b19k (B.ks.length) d19k, .slice b19s (B.ss.length) d19s] 26)) p #[.bool lf, .slice ae es.length ce, .slice ak ks.length ck, .slice az ss.length cz] 26) := Cl.on F18P.out g19
                clear F18P
                have F24N : Aside (NdR ((v19.alloc (.cells #[.bool A.leaf, .slice a19e (A.es.length) c19e, .slice a19k (A.ks.length) c19k, .slice a19s (A.ss.length) c19s] 26)).alloc (.cells #[.bool B.leaf, .slice b19e (B.es.length) d19e, .slice b19k (B.ks.length) d19k, .slice b19s (B.ss.length) d19s] 26)) (.slice ae es.length ce) (.slice ak ks.length ck) (.slice az ss.length cz) ⟨lf, es, ks, ss⟩) := F18N.out.below g19
                clear F18N
                clear B18
                clear g19 h19 o19 p19
                go_upto_region 21 with fail
                generalize ((v19.alloc (.cells #[.bool A.leaf, .slice a19e (A.es.length) c19e, .slice a19k (A.ks.length) c19k, .slice a19s (A.ss.length) c19s] 26)).alloc (.cells #[.bool B.leaf, .slice b19e (B.es.length) d19e, .slice b19k (B.ks.length) d19k, .slice b19s (B.ss.length) d19s] 26)) = u19 at *
                generalize v19.heap.size + 1 = QB at *
                generalize v19.heap.size = QA at *
                generalize w17.heap.size = ZA at *
                refine region_inv 8 (JBk u19 p QA QB lf mid (.agg #[.bool A.leaf, .slice a19e (A.es.length) c19e, .slice a19k (A.ks.length) c19k, .slice a19s (A.ss.length) c19s]) (.agg #[.bool B.leaf, .slice b19e (B.es.length) d19e, .slice b19k (B.ks.length) d19k, .slice b19s (B.ss.length) d19s]) (.agg #[.bool lf, .slice ae es.length ce, .slice ak ks.length ck, .slice az ss.length cz]) es ks ss _ _ _ _ _ _ _ _ _ _ _ _ _ _ _ _ _ _ _ _ _ _ _ _ _ _ _ _ _ _ _ _ _ _ _ _ _ _ _ _ _ _ _ _ _ _ _ _ _ _ _ _ _ _ _ _ _ _ _ _ _ _ _ _ _ _ _ _ _ _ _ _ _ _ _ _ _ _ _ _ _ _ _ _ _ _ _ _ _ _ _ _ _ _ _ _ _ _ _ _ _ _ _ _ _ _ _ _ _ _ _ _ _ _ _ _ _ _ _ _ _ _ _ _ _ _ _ _ _ _ _ _ _ _ _ _ _ _ _ _ _ _ _ _ _ _ _ _ _ _ _) (by kernel_rfl) (by kernel_rfl) (by kernel_rfl) ⟨false, false, false, false, false, false, false, false, false, rfl, rfl, _, _, _, _, _, _, _, _, rfl, (Below.refl _ u19).drew, (fun h => by cases h), (fun h => by cases h), (fun h => by cases h), (fun h => by cases h), (fun h => by cases h), (fun h => by cases h), (fun h => by cases h), (fun h => by cases h)⟩ ?_ ?_ ?_
                · intro i f a w' hne hl hJ
                  refine JBk.elim hJ (C := fun f a w' => i ∈ Region.ready .any _ f.toArray → wpOp _ _ _ i (fun a' w'' => JBk u19 p QA QB lf mid (.agg #[.bool A.leaf, .slice a19e (A.es.length) c19e, .slice a19k (A.ks.length) c19k, .slice a19s (A.ss.length) c19s]) (.agg #[.bool B.leaf, .slice b19e (B.es.length) d19e, .slice b19k (B.ks.length) d19k, .slice b19s (B.ss.length) d19s]) (.agg #[.bool lf, .slice ae es.length ce, .slice ak ks.length ck, .slice az ss.length cz]) es ks ss _ _ _ _ _ _ _ _ _ _ _ _ _ _ _ _ _ _ _ _ _ _ _ _ _ _ _ _ _ _ _ _ _ _ _ _ _ _ _ _ _ _ _ _ _ _ _ _ _ _ _ _ _ _ _ _ _ _ _ _ _ _ _ _ _ _ _ _ _ _ _ _ _ _ _ _ _ _ _ _ _ _ _ _ _ _ _ _ _ _ _ _ _ _ _ _ _ _ _ _ _ _ _ _ _ _ _ _ _ _ _ _ _ _ _ _ _ _ _ _ _ _ _ _ _ _ _ _ _ _ _ _ _ _ _ _ _ _ _ _ _ _ _ _ _ _ _ _ _ _ _ (f.set i true) a' w'') a w') ?_
                  clear hJ hl f a
                  intro f0 f1 f2 f3 f4 f5 f6 f7 f8 x122 x123 x124 x125 x126 x127 x128 x129 e8 hB h0 h1 h2 h3 h4 h5 h6 h7 hi
                  obtain ⟨hlt, hun, _⟩ := ready_mem hi
                  have hlt' : i < 9 := hlt
                  clear hlt
                  rcases (by omega : i = 0 ∨ i = 1 ∨ i = 2 ∨ i = 3 ∨ i = 4 ∨ i = 5 ∨ i = 6 ∨ i = 7) with rfl | rfl | rfl | rfl | rfl | rfl | rfl | rfl
                  · have un : f0 = false := hun
                    clear hun
                    clear hi hne hlt'
                    obtain ⟨i0, i1, i2, i3⟩ := (F20KA.out.on hB).four
                    refine wpOp_step rfl (fun K hK => ?_)
                    have HK : Shut _ := hK
                    clear hK
                    go_simp
                    refine HK.out _ _ ?_
                    exact ⟨true, f1, f2, f3, f4, f5, f6, f7, f8, rfl, e8, _, _, _, _, _, _, _, _, rfl, hB, (fun _ => rfl), h1, h2, h3, h4, h5, h6, h7⟩
                  · have un : f1 = false := hun
                    clear hun
                    clear hi hne hlt'
                    refine wpOp_step rfl (fun K hK => ?_)
                    have HK : Shut _ := hK
                    clear hK
                    go_simp
                    refine HK.out _ _ ?_
                    exact ⟨f0, true, f2, f3, f4, f5, f6, f7, f8, rfl, e8, _, _, _, _, _, _, _, _, rfl, hB, h0, (fun _ => rfl), h2, h3, h4, h5, h6, h7⟩
                  · have un : f2 = false := hun
                    clear hun
                    clear hi hne hlt'
                    obtain ⟨i0, i1, i2, i3⟩ := (F21KB.out.on hB).four
                    refine wpOp_step rfl (fun K hK => ?_)
                    have HK : Shut _ := hK
                    clear hK
                    go_simp
                    refine HK.out _ _ ?_
                    exact ⟨f0, f1, true, f3, f4, f5, f6, f7, f8, rfl, e8, _, _, _, _, _, _, _, _, rfl, hB, h0, h1, (fun _ => rfl), h3, h4, h5, h6, h7⟩
                  · have un : f3 = false := hun
                    clear hun
                    have d0 : f0 = true := ready_dep 0 hi (by kernel_rfl)
                    have y0 := h0.out d0
                    subst y0
                    have d1 : f1 = true := ready_dep 1 hi (by kernel_rfl)
                    have y1 := h1.out d1
                    subst y1
                    have d2 : f2 = true := ready_dep 2 hi (by kernel_rfl)
                    have y2 := h2.out d2
                    subst y2
                    clear hi hne hlt'
                    refine wpOp_step rfl (fun K hK => ?_)
                    have HK : Shut _ := hK
                    clear hK
                    go_simp
                    refine Calls.mono (by
                            have hh := njoin_any mid A B _ _ _ _ _ _ w' (F22OA.out.r.below hB) (F23OB.out.r.below hB) smA.l smB.l
                            rw [bk.out] at hh
                            exact hh) ?_
                    rintro e w1 ⟨x1, x2, x3, rfl, ow, b1⟩
                    obtain ⟨a1, c1, rfl⟩ := ownShape (n := es.length) ow.e
                    obtain ⟨a2, c2, rfl⟩ := ownShape (n := ks.length) ow.k
                    obtain ⟨a3, c3, rfl⟩ := ownShape (n := ss.length) ow.s
                    refine HK.out _ _ ?_
                    exact ⟨f0, f1, f2, true, f4, f5, f6, f7, f8, rfl, e8, _, _, _, _, _, _, _, _, rfl, belCall b1 hB, h0, h1, h2, (fun _ => ⟨a1, c1, a2, c2, a3, c3, rfl, ow.mono hB.size⟩), (fun d => by have e := (h4.out d).1; rw [un] at e; cases e), h5, h6, h7⟩
                  · have un : f4 = false := hun
                    clear hun
                    have d3 : f3 = true := ready_dep 3 hi (by kernel_rfl)
                    obtain ⟨a3e, c3e, a3k, c3k, a3s, c3s, y3, o3⟩ := h3.out d3
                    subst y3
                    clear hi hne hlt'
                    refine wpOp_step rfl (fun K hK => ?_)
                    have HK : Shut _ := hK
                    clear hK
                    go_simp
                    refine Calls.mono (of_any lf _ _ _ w' ⟨lf, es, ks, ss⟩ o3.r) ?_
                    rintro e w1 ⟨rfl, b1⟩
                    refine HK.out _ _ ?_
                    exact ⟨f0, f1, f2, f3, true, f5, f6, f7, f8, rfl, e8, _, _, _, _, _, _, _, _, rfl, belCall b1 hB, h0, h1, h2, (fun d => let ⟨a1, c1, a2, c2, a3, c3, e, o⟩ := h3.out d; ⟨a1, c1, a2, c2, a3, c3, e, o.below (b1)⟩), (fun _ => ⟨d3, rfl⟩), h5, h6, h7⟩
                  · have un : f5 = false := hun
                    clear hun
                    clear hi hne hlt'
                    obtain ⟨i0, i1, i2, i3⟩ := (F24P.out.on hB).four
                    refine wpOp_step rfl (fun K hK => ?_)
                    have HK : Shut _ := hK
                    clear hK
                    go_simp
                    refine HK.out _ _ ?_
                    exact ⟨f0, f1, f2, f3, f4, true, f6, f7, f8, rfl, e8, _, _, _, _, _, _, _, _, rfl, hB, h0, h1, h2, h3, h4, (fun _ => rfl), h6, h7⟩
                  · have un : f6 = false := hun
                    clear hun
                    have d5 : f5 = true := ready_dep 5 hi (by kernel_rfl)
                    have y5 := h5.out d5
                    subst y5
                    clear hi hne hlt'
                    refine wpOp_step rfl (fun K hK => ?_)
                    have HK : Shut _ := hK
                    clear hK
                    go_simp
                    refine Calls.mono (of_any lf _ _ _ w' ⟨lf, es, ks, ss⟩ (F24N.out.below hB)) ?_
                    rintro e w1 ⟨rfl, b1⟩
                    refine HK.out _ _ ?_
                    exact ⟨f0, f1, f2, f3, f4, f5, true, f7, f8, rfl, e8, _, _, _, _, _, _, _, _, rfl, belCall b1 hB, h0, h1, h2, (fun d => let ⟨a1, c1, a2, c2, a3, c3, e, o⟩ := h3.out d; ⟨a1, c1, a2, c2, a3, c3, e, o.below (b1)⟩), h4, h5, (fun _ => rfl), h7⟩
                  · have un : f7 = false := hun
                    clear hun
                    have d4 : f4 = true := ready_dep 4 hi (by kernel_rfl)
                    obtain ⟨u3, y4⟩ := h4.out d4
                    obtain ⟨a3e, c3e, a3k, c3k, a3s, c3s, y3, o3⟩ := h3.out u3
                    subst y3
                    subst y4
                    have d6 : f6 = true := ready_dep 6 hi (by kernel_rfl)
                    have y6 := h6.out d6
                    subst y6
                    clear hi hne hlt'
                    refine wpOp_step rfl (fun K hK => ?_)
                    have HK : Shut _ := hK
                    clear hK
                    go_simp
                    refine Calls.mono (nsame_any ⟨lf, es, ks, ss⟩ _ _ _ _ _ _ w' o3.r (F24N.out.below hB) sm) ?_
                    rintro e w1 ⟨rfl, b1⟩
                    refine HK.out _ _ ?_
                    exact ⟨f0, f1, f2, f3, f4, f5, f6, true, f8, rfl, e8, _, _, _, _, _, _, _, _, rfl, belCall b1 hB, h0, h1, h2, (fun d => let ⟨a1, c1, a2, c2, a3, c3, e, o⟩ := h3.out d; ⟨a1, c1, a2, c2, a3, c3, e, o.below (b1)⟩), h4, h5, h6, (fun _ => rfl)⟩
                · intro f a w' hl hJ
                  refine JBk.elim hJ (C := fun f a w' => 8 ∈ Region.ready .any _ f.toArray → wpOp _ _ _ 8 _ a w') ?_
                  clear hJ hl f a
                  intro f0 f1 f2 f3 f4 f5 f6 f7 f8 x122 x123 x124 x125 x126 x127 x128 x129 e8 hB h0 h1 h2 h3 h4 h5 h6 h7 hi
                  have d7 : f7 = true := ready_dep 7 hi (by kernel_rfl)
                  have y7 := h7.out d7
                  subst y7
                  clear hi
                  refine wpOp_step rfl (fun K hK => ?_)
                  have HK : Shut _ := hK
                  clear hK
                  go_simp
                  refine HK.out _ _ ?_
                  have GA : Aside (Cl w' QA #[.bool A.leaf, .slice a19e (A.es.length) c19e, .slice a19k (A.ks.length) c19k, .slice a19s (A.ss.length) c19s] 26) := F20KA.out.on hB
                  have GB : Aside (Cl w' QB #[.bool B.leaf, .slice b19e (B.es.length) d19e, .slice b19k (B.ks.length) d19k, .slice b19s (B.ss.length) d19s] 26) := F21KB.out.on hB
                  have GRA : Aside (NdO ZA w' (.slice a19e (A.es.length) c19e) (.slice a19k (A.ks.length) c19k) (.slice a19s (A.ss.length) c19s) A) := F22OA.out.below hB
                  have GRB : Aside (NdO ZA w' (.slice b19e (B.es.length) d19e) (.slice b19k (B.ks.length) d19k) (.slice b19s (B.ss.length) d19s) B) := F23OB.out.below hB
                  have BQ : Hid (Below w.heap.size w w') := B24.out.trans (hB.mono B24.out.size)
                  clear h0 h1 h2 h3 h4 h5 h6 h7 hB F20KA F21KB F22OA F23OB F24P F24N B24
                  obtain ⟨q24KA0, q24KA1, q24KA2, q24KA3⟩ := GA.out.four
                  have q24KAl := GA.out.lt
                  obtain ⟨q24KB0, q24KB1, q24KB2, q24KB3⟩ := GB.out.four
                  have q24KBl := GB.out.lt
                  have C25 : Hid _ := nright_any A _ _ _ w' GRA.out.r smA
                  rw [rg.out.1] at C25
                  go_wp2_with fail
                  refine Calls.mono C25.out ?_
                  rintro e w25 ⟨rfl, hb25⟩
                  clear C25
                  clear q24KA0 q24KA1 q24KA2 q24KA3 q24KAl q24KB0 q24KB1 q24KB2 q24KB3 q24KBl
                  have B26 : Hid (Below w.heap.size w w25) := BQ.out.trans (hb25.mono BQ.out.size)
                  have F26KA : Aside (Cl w25 QA #[.bool A.leaf, .slice a19e (A.es.length) c19e, .slice a19k (A.ks.length) c19k, .slice a19s (A.ss.length) c19s] 26) := Cl.on GA.out hb25
                  clear GA
                  have F26KB : Aside (Cl w25 (QB) #[.bool B.leaf, .slice b19e (B.es.length) d19e, .slice b19k (B.ks.length) d19k, .slice b19s (B.ss.length) d19s] 26) := Cl.on GB.out hb25
                  clear GB
                  have F26OA : Aside (NdO ZA w25 (.slice a19e (A.es.length) c19e) (.slice a19k (A.ks.length) c19k) (.slice a19s (A.ss.length) c19s) A) := GRA.out.below hb25
                  clear GRA
                  have F26OB : Aside (NdO ZA w25 (.slice b19e (B.es.length) d19e) (.slice b19k (B.ks.length) d19k) (.slice b19s (B.ss.length) d19s) B) := GRB.out.below hb25
                  clear GRB
                  clear BQ
                  clear hb25
                  obtain ⟨q26KA0, q26KA1, q26KA2, q26KA3⟩ := F26KA.out.four
                  have q26KAl := F26KA.out.lt
                  obtain ⟨q26KB0, q26KB1, q26KB2, q26KB3⟩ := F26KB.out.four
                  have q26KBl := F26KB.out.lt
                  have C27 : Hid _ := nright_any B _ _ _ w25 F26OB.out.r smB
                  rw [rg.out.2] at C27
                  go_wp2_with fail
                  refine Calls.mono C27.out ?_
                  rintro e w27 ⟨rfl, hb27⟩
                  clear C27
                  clear q26KA0 q26KA1 q26KA2 q26KA3 q26KAl q26KB0 q26KB1 q26KB2 q26KB3 q26KBl
                  have B28 : Hid (Below w.heap.size w w27) := B26.out.trans (hb27.mono B26.out.size)
                  have F28KA : Aside (Cl w27 QA #[.bool A.leaf, .slice a19e (A.es.length) c19e, .slice a19k (A.ks.length) c19k, .slice a19s (A.ss.length) c19s] 26) := Cl.on F26KA.out hb27
                  clear F26KA
                  have F28KB : Aside (Cl w27 (QB) #[.bool B.leaf, .slice b19e (B.es.length) d19e, .slice b19k (B.ks.length) d19k, .slice b19s (B.ss.length) d19s] 26) := Cl.on F26KB.out hb27
                  clear F26KB
                  have F28OA : Aside (NdO ZA w27 (.slice a19e (A.es.length) c19e) (.slice a19k (A.ks.length) c19k) (.slice a19s (A.ss.length) c19s) A) := F26OA.out.below hb27
                  clear F26OA
                  have F28OB : Aside (NdO ZA w27 (.slice b19e (B.es.length) d19e) (.slice b19k (B.ks.length) d19k) (.slice b19s (B.ss.length) d19s) B) := F26OB.out.below hb27
                  clear F26OB
                  clear B26
                  clear hb27
                  go_wp2
                  go_ret
                  exact ⟨rfl, B28.out⟩
                · rintro f a w' ⟨f0, f1, f2, f3, f4, f5, f6, f7, f8, rfl, rfl, _⟩
                  rfl
              ·
                clear tz
                have C19 : Hid _ := split_any ⟨lf, es, ks, ss⟩ _ _ _ w17 F18N.out sm
                rw [HA.out] at C19
                rw [HM.out] at C19
                rw [HBn.out] at C19
                go_wp2_with fail
                refine Calls.mono C19.out ?_
                rintro e v19 ⟨x19e, x19k, x19s, y19e, y19k, y19s, rfl, o19, p19, h19⟩
                clear C19
                obtain ⟨a19e, c19e, rfl⟩ := ownShape (n := A.es.length) o19.e
                obtain ⟨a19k, c19k, rfl⟩ := ownShape (n := A.ks.length) o19.k
                obtain ⟨a19s, c19s, rfl⟩ := ownShape (n := A.ss.length) o19.s
                obtain ⟨b19e, d19e, rfl⟩ := ownShape (n := B.es.length) p19.e
                obtain ⟨b19k, d19k, rfl⟩ := ownShape (n := B.ks.length) p19.k
                obtain ⟨b19s, d19s, rfl⟩ := ownShape (n := B.ss.length) p19.s
                have g19 := (belAlloc _ (belAlloc _ h19) : Below w17.heap.size w17 ((v19.alloc (.cells #[.bool A.leaf, .slice a19e (A.es.length) c19e, .slice a19k (A.ks.length) c19k, .slice a19s (A.ss.length) c19s] 26)).alloc (.cells #[.bool B.leaf, .slice b19e (B.es.length) d19e, .slice b19k (B.ks.length) d19k, .slice b19s (B.ss.length) d19s] 26)))
                have F20KA : Aside (Cl ((v19.alloc (.cells #[.bool A.leaf, .slice a19e (A.es.length) c19e, .slice a19k (A.ks.length) c19k, .slice a19s (A.ss.length) c19s] 26)).alloc (.cells #[.bool B.leaf, .slice b19e (B.es.length) d19e, .slice b19k (B.ks.length) d19k, .slice b19s (B.ss.length) d19s] 26)) v19.heap.size #[.bool A.leaf, .slice a19e (A.es.length) c19e, .slice a19k (A.ks.length) c19k, .slice a19s (A.ss.length) c19s] 26) := (Cl.new0 _ _ _).alloc _
                have F21KB : Aside (Cl ((v19.alloc (.cells #[.bool A.leaf, .slice a19e (A.es.length) c19e, .slice a19k (A.ks.length) c19k, .slice a19s (A.ss.length) c19s] 26)).alloc (.cells #[.bool B.leaf, .slice b19e (B.es.length) d19e, .slice b19k (B.ks.length) d19k, .slice b19s (B.ss.length) d19s] 26)) (v19.heap.size + 1) #[.bool B.leaf, .slice b19e (B.es.length) d19e, .slice b19k (B.ks.length) d19k, .slice b19s (B.ss.length) d19s] 26) := Cl.new1 _ _ _ _
                have F22OA : Aside (NdO w17.heap.size ((v19.alloc (.cells #[.bool A.leaf, .slice a19e (A.es.length) c19e, .slice a19k (A.ks.length) c19k, .slice a19s (A.ss.length) c19s] 26)).alloc (.cells #[.bool B.leaf, .slice b19e (B.es.length) d19e, .slice b19k (B.ks.length) d19k, .slice b19s (B.ss.length) d19s] 26)) (.slice a19e (A.es.length) c19e) (.slice a19k (A.ks.length) c19k) (.slice a19s (A.ss.length) c19s) A) := o19.below (belAlloc _ (belAlloc _ (Below.refl _ _)))
                have F23OB : Aside (NdO w17.heap.size ((v19.alloc (.cells #[.bool A.leaf, .slice a19e (A.es.length) c19e, .slice a19k (A.ks.length) c19k, .slice a19s (A.ss.length) c19s] 26)).alloc (.cells #[.bool B.leaf, .slice b19e (B.es.length) d19e, .slice b19k (B.ks.length) d19k, .slice b19s (B.ss.length) d19s] 26)) (.slice b19e (B.es.length) d19e) (.slice b19k (B.ks.length) d19k) (.slice b19s (B.ss.length) d19s) B) := p19.below (belAlloc _ (belAlloc _ (Below.refl _ _)))
                clear q18P0 q18P1 q18P2 q18P3 q18Pl
                have B24 : Hid (Below w.heap.size w ((v19.alloc (.cells #[.bool A.leaf, .slice a19e (A.es.length) c19e, .slice a19k (A.ks.length) c19k, .slice a19s (A.ss.length) c19s] 26)).alloc (.cells #[.bool B.leaf, .slice b19e (B.es.length) d19e, .slice b19k (B.ks.length) d19k, .slice b19s (B.ss.length) d19s] 26))) := B18.out.trans (g19.mono B18.out.size)
                have F24P : Aside (Cl ((v19.alloc (.cells #[.bool A.leaf, .slice a19e (A.es.length) c19e, .slice a19k (A.ks.length) c19k, .slice a19s (A.ss.length) c19s] 26)).alloc (.cells #[.bool B.leaf, .slice b19e (B.es.length) d19e, .slice b19k (B.ks.length) d19k, .slice b19s (B.ss.length) d19s] 26)) p #[.bool lf, .slice ae es.length ce, .slice ak ks.length ck, .slice az ss.length cz] 26) := Cl.on F18P.out g19
                clear F18P
                have F24N : Aside (NdR ((v19.alloc (.cells #[.bool A.leaf, .slice a19e (A.es.length) c19e, .slice a19k (A.ks.length) c19k, .slice a19s (A.ss.length) c19s] 26)).alloc (.cells #[.bool B.leaf, .slice b19e (B.es.length) d19e, .slice b19k (B.ks.length) d19k, .slice b19s (B.ss.length) d19s] 26)) (.slice ae es.length ce) (.slice ak ks.length ck) (.slice az ss.length cz) ⟨lf, es, ks, ss⟩) := F18N.out.below g19
                clear F18N
                clear B18
                clear g19 h19 o19 p19
                go_upto_region 21 with fail
                generalize ((v19.alloc (.cells #[.bool A.leaf, .slice a19e (A.es.length) c19e, .slice a19k (A.ks.length) c19k, .slice a19s (A.ss.length) c19s] 26)).alloc (.cells #[.bool B.leaf, .slice b19e (B.es.length) d19e, .slice b19k (B.ks.length) d19k, .slice b19s (B.ss.length) d19s] 26)) = u19 at *
                generalize v19.heap.size + 1 = QB at *
                generalize v19.heap.size = QA at *
                generalize w17.heap.size = ZA at *
                refine region_inv 8 (JBk u19 p QA QB lf mid (.agg #[.bool A.leaf, .slice a19e (A.es.length) c19e, .slice a19k (A.ks.length) c19k, .slice a19s (A.ss.length) c19s]) (.agg #[.bool B.leaf, .slice b19e (B.es.length) d19e, .slice b19k (B.ks.length) d19k, .slice b19s (B.ss.length) d19s]) (.agg #[.bool lf, .slice ae es.length ce, .slice ak ks.length ck, .slice az ss.length cz]) es ks ss _ _ _ _ _ _ _ _ _ _ _ _ _ _ _ _ _ _ _ _ _ _ _ _ _ _ _ _ _ _ _ _ _ _ _ _ _ _ _ _ _ _ _ _ _ _ _ _ _ _ _ _ _ _ _ _ _ _ _ _ _ _ _ _ _ _ _ _ _ _ _ _ _ _ _ _ _ _ _ _ _ _ _ _ _ _ _ _ _ _ _ _ _ _ _ _ _ _ _ _ _ _ _ _ _ _ _ _ _ _ _ _ _ _ _ _ _ _ _ _ _ _ _ _ _ _ _ _ _ _ _ _ _ _ _ _ _ _ _ _ _ _ _ _ _ _ _ _ _ _ _) (by kernel_rfl) (by kernel_rfl) (by kernel_rfl) ⟨false, false, false, false, false, false, false, false, false, rfl, rfl, _, _, _, _, _, _, _, _, rfl, (Below.refl _ u19).drew, (fun h => by cases h), (fun h => by cases h), (fun h => by cases h), (fun h => by cases h), (fun h => by cases h), (fun h => by cases h), (fun h => by cases h), (fun h => by cases h)⟩ ?_ ?_ ?_
                · intro i f a w' hne hl hJ
                  refine JBk.elim hJ (C := fun f a w' => i ∈ Region.ready .any _ f.toArray → wpOp _ _ _ i (fun a' w'' => JBk u19 p QA QB lf mid (.agg #[.bool A.leaf, .slice a19e (A.es.length) c19e, .slice a19k (A.ks.length) c19k, .slice a19s (A.ss.length) c19s]) (.agg #[.bool B.leaf, .slice b19e (B.es.length) d19e, .slice b19k (B.ks.length) d19k, .slice b19s (B.ss.length) d19s]) (.agg #[.bool lf, .slice ae es.length ce, .slice ak ks.length ck, .slice az ss.length cz]) es ks ss _ _ _ _ _ _ _ _ _ _ _ _ _ _ _ _ _ _ _ _ _ _ _ _ _ _ _ _ _ _ _ _ _ _ _ _ _ _ _ _ _ _ _ _ _ _ _ _ _ _ _ _ _ _ _ _ _ _ _ _ _ _ _ _ _ _ _ _ _ _ _ _ _ _ _ _ _ _ _ _ _ _ _ _ _ _ _ _ _ _ _ _ _ _ _ _ _ _ _ _ _ _ _ _ _ _ _ _ _ _ _ _ _ _ _ _ _ _ _ _ _ _ _ _ _ _ _ _ _ _ _ _ _ _ _ _ _ _ _ _ _ _ _ _ _ _ _ _ _ _ _ (f.set i true) a' w'') a w') ?_
                  clear hJ hl f a
                  intro f0 f1 f2 f3 f4 f5 f6 f7 f8 x122 x123 x124 x125 x126 x127 x128 x129 e8 hB h0 h1 h2 h3 h4 h5 h6 h7 hi
                  obtain ⟨hlt, hun, _⟩ := ready_mem hi
                  have hlt' : i < 9 := hlt
                  clear hlt
                  rcases (by omega : i = 0 ∨ i = 1 ∨ i = 2 ∨ i = 3 ∨ i = 4 ∨ i = 5 ∨ i = 6 ∨ i = 7) with rfl | rfl | rfl | rfl | rfl | rfl | rfl | rfl
                  · have un : f0 = false := hun
                    clear hun
                    clear hi hne hlt'
                    obtain ⟨i0, i1, i2, i3⟩ := (F20KA.out.on hB).four
                    refine wpOp_step rfl (fun K hK => ?_)
                    have HK : Shut _ := hK
                    clear hK
                    go_simp
                    refine HK.out _ _ ?_
                    exact ⟨true, f1, f2, f3, f4, f5, f6, f7, f8, rfl, e8, _, _, _, _, _, _, _, _, rfl, hB, (fun _ => rfl), h1, h2, h3, h4, h5, h6, h7⟩
                  · have un : f1 = false := hun
                    clear hun
                    clear hi hne hlt'
                    refine wpOp_step rfl (fun K hK => ?_)
                    have HK : Shut _ := hK
                    clear hK
                    go_simp
                    refine HK.out _ _ ?_
                    exact ⟨f0, true, f2, f3, f4, f5, f6, f7, f8, rfl, e8, _, _, _, _, _, _, _, _, rfl, hB, h0, (fun _ => rfl), h2, h3, h4, h5, h6, h7⟩
                  · have un : f2 = false := hun
                    clear hun
                    clear hi hne hlt'
                    obtain ⟨i0, i1, i2, i3⟩ := (F21KB.out.on hB).four
                    refine wpOp_step rfl (fun K hK => ?_)
                    have HK : Shut _ := hK
                    clear hK
                    go_simp
                    refine HK.out _ _ ?_
                    exact ⟨f0, f1, true, f3, f4, f5, f6, f7, f8, rfl, e8, _, _, _, _, _, _, _, _, rfl, hB, h0, h1, (fun _ => rfl), h3, h4, h5, h6, h7⟩
                  · have un : f3 = false := hun
                    clear hun
                    have d0 : f0 = true := ready_dep 0 hi (by kernel_rfl)
                    have y0 := h0.out d0
                    subst y0
                    have d1 : f1 = true := ready_dep 1 hi (by kernel_rfl)
                    have y1 := h1.out d1
                    subst y1
                    have d2 : f2 = true := ready_dep 2 hi (by kernel_rfl)
                    have y2 := h2.out d2
                    subst y2
                    clear hi hne hlt'
                    refine wpOp_step rfl (fun K hK => ?_)
                    have HK : Shut _ := hK
                    clear hK
                    go_simp
                    refine Calls.mono (by
                            have hh := njoin_any mid A B _ _ _ _ _ _ w' (F22OA.out.r.below hB) (F23OB.out.r.below hB) smA.l smB.l
                            rw [bk.out] at hh
                            exact hh) ?_
                    rintro e w1 ⟨x1, x2, x3, rfl, ow, b1⟩
                    obtain ⟨a1, c1, rfl⟩ := ownShape (n := es.length) ow.e
                    obtain ⟨a2, c2, rfl⟩ := ownShape (n := ks.length) ow.k
                    obtain ⟨a3, c3, rfl⟩ := ownShape (n := ss.length) ow.s
                    refine HK.out _ _ ?_
                    exact ⟨f0, f1, f2, true, f4, f5, f6, f7, f8, rfl, e8, _, _, _, _, _, _, _, _, rfl, belCall b1 hB, h0, h1, h2, (fun _ => ⟨a1, c1, a2, c2, a3, c3, rfl, ow.mono hB.size⟩), (fun d => by have e := (h4.out d).1; rw [un] at e; cases e), h5, h6, h7⟩
                  · have un : f4 = false := hun
                    clear hun
                    have d3 : f3 = true := ready_dep 3 hi (by kernel_rfl)
                    obtain ⟨a3e, c3e, a3k, c3k, a3s, c3s, y3, o3⟩ := h3.out d3
                    subst y3
                    clear hi hne hlt'
                    refine wpOp_step rfl (fun K hK => ?_)
                    have HK : Shut _ := hK
                    clear hK
                    go_simp
                    refine Calls.mono (of_any lf _ _ _ w' ⟨lf, es, ks, ss⟩ o3.r) ?_
                    rintro e w1 ⟨rfl, b1⟩
                    refine HK.out _ _ ?_
                    exact ⟨f0, f1, f2, f3, true, f5, f6, f7, f8, rfl, e8, _, _, _, _, _, _, _, _, rfl, belCall b1 hB, h0, h1, h2, (fun d => let ⟨a1, c1, a2, c2, a3, c3, e, o⟩ := h3.out d; ⟨a1, c1, a2, c2, a3, c3, e, o.below (b1)⟩), (fun _ => ⟨d3, rfl⟩), h5, h6, h7⟩
                  · have un : f5 = false := hun
                    clear hun
                    clear hi hne hlt'
                    obtain ⟨i0, i1, i2, i3⟩ := (F24P.out.on hB).four
                    refine wpOp_step rfl (fun K hK => ?_)
                    have HK : Shut _ := hK
                    clear hK
                    go_simp
                    refine HK.out _ _ ?_
                    exact ⟨f0, f1, f2, f3, f4, true, f6, f7, f8, rfl, e8, _, _, _, _, _, _, _, _, rfl, hB, h0, h1, h2, h3, h4, (fun _ => rfl), h6, h7⟩
                  · have un : f6 = false := hun
                    clear hun
                    have d5 : f5 = true := ready_dep 5 hi (by kernel_rfl)
                    have y5 := h5.out d5
                    subst y5
                    clear hi hne hlt'
                    refine wpOp_step rfl (fun K hK => ?_)
                    have HK : Shut _ := hK
                    clear hK
                    go_simp
                    refine Calls.mono (of_any lf _ _ _ w' ⟨lf, es, ks, ss⟩ (F24N.out.below hB)) ?_
                    rintro e w1 ⟨rfl, b1⟩
                    refine HK.out _ _ ?_
                    exact ⟨f0, f1, f2, f3, f4, f5, true, f7, f8, rfl, e8, _, _, _, _, _, _, _, _, rfl, belCall b1 hB, h0, h1, h2, (fun d => let ⟨a1, c1, a2, c2, a3, c3, e, o⟩ := h3.out d; ⟨a1, c1, a2, c2, a3, c3, e, o.below (b1)⟩), h4, h5, (fun _ => rfl), h7⟩
                  · have un : f7 = false := hun
                    clear hun
                    have d4 : f4 = true := ready_dep 4 hi (by kernel_rfl)
                    obtain ⟨u3, y4⟩ := h4.out d4
                    obtain ⟨a3e, c3e, a3k, c3k, a3s, c3s, y3, o3⟩ := h3.out u3
                    subst y3
                    subst y4
                    have d6 : f6 = true := ready_dep 6 hi (by kernel_rfl)
                    have y6 := h6.out d6
                    subst y6
                    clear hi hne hlt'
                    refine wpOp_step rfl (fun K hK => ?_)
                    have HK : Shut _ := hK
                    clear hK
                    go_simp
                    refine Calls.mono (nsame_any ⟨lf, es, ks, ss⟩ _ _ _ _ _ _ w' o3.r (F24N.out.below hB) sm) ?_
                    rintro e w1 ⟨rfl, b1⟩
                    refine HK.out _ _ ?_
                    exact ⟨f0, f1, f2, f3, f4, f5, f6, true, f8, rfl, e8, _, _, _, _, _, _, _, _, rfl, belCall b1 hB, h0, h1, h2, (fun d => let ⟨a1, c1, a2, c2, a3, c3, e, o⟩ := h3.out d; ⟨a1, c1, a2, c2, a3, c3, e, o.below (b1)⟩), h4, h5, h6, (fun _ => rfl)⟩
                · intro f a w' hl hJ
                  refine JBk.elim hJ (C := fun f a w' => 8 ∈ Region.ready .any _ f.toArray → wpOp _ _ _ 8 _ a w') ?_
                  clear hJ hl f a
                  intro f0 f1 f2 f3 f4 f5 f6 f7 f8 x122 x123 x124 x125 x126 x127 x128 x129 e8 hB h0 h1 h2 h3 h4 h5 h6 h7 hi
                  have d7 : f7 = true := ready_dep 7 hi (by kernel_rfl)
                  have y7 := h7.out d7
                  subst y7
                  clear hi
                  refine wpOp_step rfl (fun K hK => ?_)
                  have HK : Shut _ := hK
                  clear hK
                  go_simp
                  refine HK.out _ _ ?_
                  have GA : Aside (Cl w' QA #[.bool A.leaf, .slice a19e (A.es.length) c19e, .slice a19k (A.ks.length) c19k, .slice a19s (A.ss.length) c19s] 26) := F20KA.out.on hB
                  have GB : Aside (Cl w' QB #[.bool B.leaf, .slice b19e (B.es.length) d19e, .slice b19k (B.ks.length) d19k, .slice b19s (B.ss.length) d19s] 26) := F21KB.out.on hB
                  have GRA : Aside (NdO ZA w' (.slice a19e (A.es.length) c19e) (.slice a19k (A.ks.length) c19k) (.slice a19s (A.ss.length) c19s) A) := F22OA.out.below hB
                  have GRB : Aside (NdO ZA w' (.slice b19e (B.es.length) d19e) (.slice b19k (B.ks.length) d19k) (.slice b19s (B.ss.length) d19s) B) := F23OB.out.below hB
                  have BQ : Hid (Below w.heap.size w w') := B24.out.trans (hB.mono B24.out.size)
                  clear h0 h1 h2 h3 h4 h5 h6 h7 hB F20KA F21KB F22OA F23OB F24P F24N B24
                  obtain ⟨q24KA0, q24KA1, q24KA2, q24KA3⟩ := GA.out.four
                  have q24KAl := GA.out.lt
                  obtain ⟨q24KB0, q24KB1, q24KB2, q24KB3⟩ := GB.out.four
                  have q24KBl := GB.out.lt
                  have C25 : Hid _ := nright_any A _ _ _ w' GRA.out.r smA
                  rw [rg.out.1] at C25
                  go_wp2_with fail
                  refine Calls.mono C25.out ?_
                  rintro e w25 ⟨rfl, hb25⟩
                  clear C25
                  clear q24KA0 q24KA1 q24KA2 q24KA3 q24KAl q24KB0 q24KB1 q24KB2 q24KB3 q24KBl
                  have B26 : Hid (Below w.heap.size w w25) := BQ.out.trans (hb25.mono BQ.out.size)
                  have F26KA : Aside (Cl w25 QA #[.bool A.leaf, .slice a19e (A.es.length) c19e, .slice a19k (A.ks.length) c19k, .slice a19s (A.ss.length) c19s] 26) := Cl.on GA.out hb25
                  clear GA
                  have F26KB : Aside (Cl w25 (QB) #[.bool B.leaf, .slice b19e (B.es.length) d19e, .slice b19k (B.ks.length) d19k, .slice b19s (B.ss.length) d19s] 26) := Cl.on GB.out hb25
                  clear GB
                  have F26OA : Aside (NdO ZA w25 (.slice a19e (A.es.length) c19e) (.slice a19k (A.ks.length) c19k) (.slice a19s (A.ss.length) c19s) A) := GRA.out.below hb25
                  clear GRA
                  have F26OB : Aside (NdO ZA w25 (.slice b19e (B.es.length) d19e) (.slice b19k (B.ks.length) d19k) (.slice b19s (B.ss.length) d19s) B) := GRB.out.below hb25
                  clear GRB
                  clear BQ
                  clear hb25
                  obtain ⟨q26KA0, q26KA1, q26KA2, q26KA3⟩ := F26KA.out.four
                  have q26KAl := F26KA.out.lt
                  obtain ⟨q26KB0, q26KB1, q26KB2, q26KB3⟩ := F26KB.out.four
                  have q26KBl := F26KB.out.lt
                  have C27 : Hid _ := nright_any B _ _ _ w25 F26OB.out.r smB
                  rw [rg.out.2] at C27
                  go_wp2_with fail
                  refine Calls.mono C27.out ?_
                  rintro e w27 ⟨rfl, hb27⟩
                  clear C27
                  clear q26KA0 q26KA1 q26KA2 q26KA3 q26KAl q26KB0 q26KB1 q26KB2 q26KB3 q26KBl
                  have B28 : Hid (Below w.heap.size w w27) := B26.out.trans (hb27.mono B26.out.size)
                  have F28KA : Aside (Cl w27 QA #[.bool A.leaf, .slice a19e (A.es.length) c19e, .slice a19k (A.ks.length) c19k, .slice a19s (A.ss.length) c19s] 26) := Cl.on F26KA.out hb27
                  clear F26KA
                  have F28KB : Aside (Cl w27 (QB) #[.bool B.leaf, .slice b19e (B.es.length) d19e, .slice b19k (B.ks.length) d19k, .slice b19s (B.ss.length) d19s] 26) := Cl.on F26KB.out hb27
                  clear F26KB
                  have F28OA : Aside (NdO ZA w27 (.slice a19e (A.es.length) c19e) (.slice a19k (A.ks.length) c19k) (.slice a19s (A.ss.length) c19s) A) := F26OA.out.below hb27
                  clear F26OA
                  have F28OB : Aside (NdO ZA w27 (.slice b19e (B.es.length) d19e) (.slice b19k (B.ks.length) d19k) (.slice b19s (B.ss.length) d19s) B) := F26OB.out.below hb27
                  clear F26OB
                  clear B26
                  clear hb27
                  go_wp2
                  go_ret
                  exact ⟨rfl, B28.out⟩
                · rintro f a w' ⟨f0, f1, f2, f3, f4, f5, f6, f7, f8, rfl, rfl, _⟩
                  rfl

end Go.Proofs.Ytmamnlphhiaeoaa
