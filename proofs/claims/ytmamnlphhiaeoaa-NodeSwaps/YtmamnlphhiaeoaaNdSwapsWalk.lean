/-
  The walk of NodeSwaps.
-/
import Derived.Test.YtmamnlphhiaeoaaNdWorks
import Derived.Test.YtmamnlphhiaeoaaNdOpen
import Derived.Deep.LoopGhost
namespace Go.Proofs.Ytmamnlphhiaeoaa
open Go.Shelf Go.RowKit Go.Lib Go.Sort
attribute [local go_sem ↓] Go.wp_at_zero Go.wp_at_succ

theorem mk_at {ks kk mk : List Int} {k : Nat} (h : ks.take k ++ kk ++ ks.drop (k + 1) = mk) (hk : k < ks.length) :
    (∀ i, i < k → mk[i]! = ks[i]!) ∧ (∀ j, j < kk.length → mk[k + j]! = kk[j]!) ∧ (∀ j, k < j → j < ks.length → mk[j + kk.length - 1]! = ks[j]!) := by
  have lt : (ks.take k).length = k := by simp; omega
  subst h
  refine ⟨fun i hi => ?_, fun j hj => ?_, fun j h1 h2 => ?_⟩
  · rw [List.append_assoc, List.getElem!_eq_getElem?_getD, List.getElem!_eq_getElem?_getD, List.getElem?_append_left (by omega), List.getElem?_take_of_lt hi]
  · rw [List.append_assoc, List.getElem!_eq_getElem?_getD, List.getElem!_eq_getElem?_getD, List.getElem?_append_right (by omega), lt, show k + j - k = j by omega, List.getElem?_append_left hj]
  · rw [List.getElem!_eq_getElem?_getD, List.getElem!_eq_getElem?_getD, List.getElem?_append_right (by rw [List.length_append]; omega), List.length_append, lt, List.getElem?_drop, show k + 1 + (j + kk.length - 1 - (k + kk.length)) = j by omega]

/-- What holds between the operations of the region. -/
def JSws (W0 : World) (p Q k nk ck nn co kb ko : Nat) (ao : Option Addr) (z : Int) (VM : Value) (es : List En) (ks : List Int) (ss : List ByteArray) (y0 y1 y3 y5 y6 y7 y8 y9 y10 y13 y14 y16 y17 y18 y19 y20 y21 y22 y23 y24 y25 y26 y27 y28 y29 y30 y31 y32 y33 y34 y35 y36 y37 y38 y39 y40 y41 y42 y43 y44 y45 y46 y47 y48 y49 y50 y51 y52 y53 y54 y55 y56 y57 y58 y59 y60 y61 y62 y63 y64 y65 y66 y67 y68 y69 y70 y71 y72 y73 y74 y75 y76 y77 y78 y79 y80 y81 y82 y83 y84 y85 y86 y87 y88 y89 y90 y91 y92 y93 y94 y95 y96 y97 y98 y99 y100 y101 y102 y103 y104 y105 y106 y107 y108 y109 y110 y111 y112 y113 y114 y115 y116 y117 y118 y119 y120 y121 y122 y123 y124 y125 y126 y127 y128 y142 y143 y144 y145 y146 y147 y148 y149 y150 : Value) (f : List Bool) (a : Act) (w : World) : Prop :=
  ∃ f0 f1 f2 f3 f4 f5 f6 f7 f8 f9 f10 f11 f12 f13 f14 : Bool, f = [f0, f1, f2, f3, f4, f5, f6, f7, f8, f9, f10, f11, f12, f13, f14] ∧ f14 = false ∧ ∃ x15 x129 x130 x131 x132 x133 x134 x135 x136 x137 x138 x139 x140 x141 : Value,
    a = { tmps := #[y0, y1, .slice ao nn co, y3, .pointer (some ⟨p, 0, none⟩), y5, y6, y7, y8, y9, y10, .int .i64 k, .pointer (some ⟨Q, 0, none⟩), y13, y14, x15, y16, y17, y18, y19, y20, y21, y22, y23, y24, y25, y26, y27, y28, y29, y30, y31, y32, y33, y34, y35, y36, y37, y38, y39, y40, y41, y42, y43, y44, y45, y46, y47, y48, y49, y50, y51, y52, y53, y54, y55, y56, y57, y58, y59, y60, y61, y62, y63, y64, y65, y66, y67, y68, y69, y70, y71, y72, y73, y74, y75, y76, y77, y78, y79, y80, y81, y82, y83, y84, y85, y86, y87, y88, y89, y90, y91, y92, y93, y94, y95, y96, y97, y98, y99, y100, y101, y102, y103, y104, y105, y106, y107, y108, y109, y110, y111, y112, y113, y114, y115, y116, y117, y118, y119, y120, y121, y122, y123, y124, y125, y126, y127, y128, x129, x130, x131, x132, x133, x134, x135, x136, x137, x138, x139, x140, x141, y142, y143, y144, y145, y146, y147, y148, y149, y150], defers := [] } ∧ Below W0.heap.size W0 w ∧
    Hid (f0 = true → x129 = VM) ∧
    Hid (f1 = true → x130 = .int .i64 k) ∧
    Hid (f2 = true → x131 = .int .i64 k) ∧
    Hid (f3 = true → x132 = .slice ao nn co) ∧
    Hid (f4 = true → x133 = .int .i64 nn) ∧
    Hid (f5 = true → x134 = .int .i64 ((k : Int) + (nn : Int))) ∧
    Hid (f6 = true → x135 = .pointer (some ⟨p, 2, none⟩)) ∧
    Hid (f7 = true → x136 = .slice (some ⟨kb, ko, none⟩) nk ck) ∧
    Hid (f8 = true → x137 = .int .i64 k) ∧
    Hid (f9 = true → x138 = .pointer (some ⟨kb, ko + k, none⟩)) ∧
    Hid (f10 = true → x139 = .int .i64 z) ∧
    Hid (f11 = true → ∃ qq, x140 = .slice (some ⟨qq, 0, none⟩) 1 1 ∧ Cl w qq #[.int .i64 z] 3) ∧
    Hid (f12 = true → ∃ a1 c1 a2 c2 a3 c3, x141 = .agg #[.bool false, .slice a1 es.length c1, .slice a2 ks.length c2, .slice a3 ss.length c3] ∧ NdO W0.heap.size w (.slice a1 es.length c1) (.slice a2 ks.length c2) (.slice a3 ss.length c3) ⟨false, es, ks, ss⟩) ∧
    Hid (f13 = true → ∃ qq, x15 = .pointer (some ⟨qq, 0, none⟩) ∧ W0.heap.size ≤ qq ∧ Cl w qq #[.bool false, .slice none 0 0, .slice none 0 0, .slice none 0 0] 26)
theorem JSws.elim {W0 : World} {p Q k nk ck nn co kb ko : Nat} {ao : Option Addr} {z : Int} {VM : Value} {es : List En} {ks : List Int} {ss : List ByteArray} {y0 y1 y3 y5 y6 y7 y8 y9 y10 y13 y14 y16 y17 y18 y19 y20 y21 y22 y23 y24 y25 y26 y27 y28 y29 y30 y31 y32 y33 y34 y35 y36 y37 y38 y39 y40 y41 y42 y43 y44 y45 y46 y47 y48 y49 y50 y51 y52 y53 y54 y55 y56 y57 y58 y59 y60 y61 y62 y63 y64 y65 y66 y67 y68 y69 y70 y71 y72 y73 y74 y75 y76 y77 y78 y79 y80 y81 y82 y83 y84 y85 y86 y87 y88 y89 y90 y91 y92 y93 y94 y95 y96 y97 y98 y99 y100 y101 y102 y103 y104 y105 y106 y107 y108 y109 y110 y111 y112 y113 y114 y115 y116 y117 y118 y119 y120 y121 y122 y123 y124 y125 y126 y127 y128 y142 y143 y144 y145 y146 y147 y148 y149 y150 : Value} {f : List Bool} {a : Act} {w : World} {C : List Bool → Act → World → Prop} (h : JSws W0 p Q k nk ck nn co kb ko ao z VM es ks ss y0 y1 y3 y5 y6 y7 y8 y9 y10 y13 y14 y16 y17 y18 y19 y20 y21 y22 y23 y24 y25 y26 y27 y28 y29 y30 y31 y32 y33 y34 y35 y36 y37 y38 y39 y40 y41 y42 y43 y44 y45 y46 y47 y48 y49 y50 y51 y52 y53 y54 y55 y56 y57 y58 y59 y60 y61 y62 y63 y64 y65 y66 y67 y68 y69 y70 y71 y72 y73 y74 y75 y76 y77 y78 y79 y80 y81 y82 y83 y84 y85 y86 y87 y88 y89 y90 y91 y92 y93 y94 y95 y96 y97 y98 y99 y100 y101 y102 y103 y104 y105 y106 y107 y108 y109 y110 y111 y112 y113 y114 y115 y116 y117 y118 y119 y120 y121 y122 y123 y124 y125 y126 y127 y128 y142 y143 y144 y145 y146 y147 y148 y149 y150 f a w)
    (k : ∀ (f0 f1 f2 f3 f4 f5 f6 f7 f8 f9 f10 f11 f12 f13 f14 : Bool) (x15 x129 x130 x131 x132 x133 x134 x135 x136 x137 x138 x139 x140 x141 : Value), f14 = false → Below W0.heap.size W0 w →
      Hid (f0 = true → x129 = VM) →
      Hid (f1 = true → x130 = .int .i64 k) →
      Hid (f2 = true → x131 = .int .i64 k) →
      Hid (f3 = true → x132 = .slice ao nn co) →
      Hid (f4 = true → x133 = .int .i64 nn) →
      Hid (f5 = true → x134 = .int .i64 ((k : Int) + (nn : Int))) →
      Hid (f6 = true → x135 = .pointer (some ⟨p, 2, none⟩)) →
      Hid (f7 = true → x136 = .slice (some ⟨kb, ko, none⟩) nk ck) →
      Hid (f8 = true → x137 = .int .i64 k) →
      Hid (f9 = true → x138 = .pointer (some ⟨kb, ko + k, none⟩)) →
      Hid (f10 = true → x139 = .int .i64 z) →
      Hid (f11 = true → ∃ qq, x140 = .slice (some ⟨qq, 0, none⟩) 1 1 ∧ Cl w qq #[.int .i64 z] 3) →
      Hid (f12 = true → ∃ a1 c1 a2 c2 a3 c3, x141 = .agg #[.bool false, .slice a1 es.length c1, .slice a2 ks.length c2, .slice a3 ss.length c3] ∧ NdO W0.heap.size w (.slice a1 es.length c1) (.slice a2 ks.length c2) (.slice a3 ss.length c3) ⟨false, es, ks, ss⟩) →
      Hid (f13 = true → ∃ qq, x15 = .pointer (some ⟨qq, 0, none⟩) ∧ W0.heap.size ≤ qq ∧ Cl w qq #[.bool false, .slice none 0 0, .slice none 0 0, .slice none 0 0] 26) →
      C [f0, f1, f2, f3, f4, f5, f6, f7, f8, f9, f10, f11, f12, f13, f14] { tmps := #[y0, y1, .slice ao nn co, y3, .pointer (some ⟨p, 0, none⟩), y5, y6, y7, y8, y9, y10, .int .i64 k, .pointer (some ⟨Q, 0, none⟩), y13, y14, x15, y16, y17, y18, y19, y20, y21, y22, y23, y24, y25, y26, y27, y28, y29, y30, y31, y32, y33, y34, y35, y36, y37, y38, y39, y40, y41, y42, y43, y44, y45, y46, y47, y48, y49, y50, y51, y52, y53, y54, y55, y56, y57, y58, y59, y60, y61, y62, y63, y64, y65, y66, y67, y68, y69, y70, y71, y72, y73, y74, y75, y76, y77, y78, y79, y80, y81, y82, y83, y84, y85, y86, y87, y88, y89, y90, y91, y92, y93, y94, y95, y96, y97, y98, y99, y100, y101, y102, y103, y104, y105, y106, y107, y108, y109, y110, y111, y112, y113, y114, y115, y116, y117, y118, y119, y120, y121, y122, y123, y124, y125, y126, y127, y128, x129, x130, x131, x132, x133, x134, x135, x136, x137, x138, x139, x140, x141, y142, y143, y144, y145, y146, y147, y148, y149, y150], defers := [] } w) : C f a w :=
  let ⟨f0, f1, f2, f3, f4, f5, f6, f7, f8, f9, f10, f11, f12, f13, f14, ef, e, x15, x129, x130, x131, x132, x133, x134, x135, x136, x137, x138, x139, x140, x141, ea, hB, h0, h1, h2, h3, h4, h5, h6, h7, h8, h9, h10, h11, h12, h13⟩ := h
  ef ▸ ea ▸ k f0 f1 f2 f3 f4 f5 f6 f7 f8 f9 f10 f11 f12 f13 f14 x15 x129 x130 x131 x132 x133 x134 x135 x136 x137 x138 x139 x140 x141 e hB h0 h1 h2 h3 h4 h5 h6 h7 h8 h9 h10 h11 h12 h13

/-- What holds between the operations of the region. -/
def JSwt (W0 : World) (p Qb : Nat) (VB VN : Value) (y0 y1 y2 y3 y5 y6 y7 y8 y9 y10 y11 y12 y13 y14 y16 y17 y18 y19 y20 y21 y22 y23 y24 y25 y26 y27 y28 y29 y30 y31 y32 y33 y34 y35 y36 y37 y38 y39 y40 y41 y42 y43 y44 y45 y46 y47 y48 y49 y50 y51 y52 y53 y54 y55 y56 y57 y58 y59 y60 y61 y62 y63 y64 y65 y66 y67 y68 y69 y70 y71 y72 y73 y74 y75 y76 y77 y78 y79 y80 y81 y82 y83 y84 y85 y86 y87 y88 y89 y90 y91 y92 y93 y94 y95 y96 y97 y98 y99 y100 y101 y102 y103 y104 y105 y106 y107 y108 y109 y110 y111 y112 y113 y114 y115 y116 y117 y118 y119 y120 y121 y122 y123 y124 y125 y126 y127 y128 y129 y130 y131 y132 y133 y134 y135 y136 y137 y138 y139 y140 y141 y147 y148 y149 y150 : Value) (f : List Bool) (a : Act) (w : World) : Prop :=
  ∃ f0 f1 f2 f3 f4 f5 : Bool, f = [f0, f1, f2, f3, f4, f5] ∧ f5 = false ∧ ∃ x142 x143 x144 x145 x146 : Value,
    a = { tmps := #[y0, y1, y2, y3, .pointer (some ⟨p, 0, none⟩), y5, y6, y7, y8, y9, y10, y11, y12, y13, y14, .pointer (some ⟨Qb, 0, none⟩), y16, y17, y18, y19, y20, y21, y22, y23, y24, y25, y26, y27, y28, y29, y30, y31, y32, y33, y34, y35, y36, y37, y38, y39, y40, y41, y42, y43, y44, y45, y46, y47, y48, y49, y50, y51, y52, y53, y54, y55, y56, y57, y58, y59, y60, y61, y62, y63, y64, y65, y66, y67, y68, y69, y70, y71, y72, y73, y74, y75, y76, y77, y78, y79, y80, y81, y82, y83, y84, y85, y86, y87, y88, y89, y90, y91, y92, y93, y94, y95, y96, y97, y98, y99, y100, y101, y102, y103, y104, y105, y106, y107, y108, y109, y110, y111, y112, y113, y114, y115, y116, y117, y118, y119, y120, y121, y122, y123, y124, y125, y126, y127, y128, y129, y130, y131, y132, y133, y134, y135, y136, y137, y138, y139, y140, y141, x142, x143, x144, x145, x146, y147, y148, y149, y150], defers := [] } ∧ Below W0.heap.size W0 w ∧
    Hid (f0 = true → x142 = VB) ∧
    Hid (f1 = true → x143 = VB) ∧
    Hid (f2 = true → x144 = VN) ∧
    Hid (f3 = true → x145 = VN) ∧
    Hid (f4 = true → x146 = .bool true)
theorem JSwt.elim {W0 : World} {p Qb : Nat} {VB VN : Value} {y0 y1 y2 y3 y5 y6 y7 y8 y9 y10 y11 y12 y13 y14 y16 y17 y18 y19 y20 y21 y22 y23 y24 y25 y26 y27 y28 y29 y30 y31 y32 y33 y34 y35 y36 y37 y38 y39 y40 y41 y42 y43 y44 y45 y46 y47 y48 y49 y50 y51 y52 y53 y54 y55 y56 y57 y58 y59 y60 y61 y62 y63 y64 y65 y66 y67 y68 y69 y70 y71 y72 y73 y74 y75 y76 y77 y78 y79 y80 y81 y82 y83 y84 y85 y86 y87 y88 y89 y90 y91 y92 y93 y94 y95 y96 y97 y98 y99 y100 y101 y102 y103 y104 y105 y106 y107 y108 y109 y110 y111 y112 y113 y114 y115 y116 y117 y118 y119 y120 y121 y122 y123 y124 y125 y126 y127 y128 y129 y130 y131 y132 y133 y134 y135 y136 y137 y138 y139 y140 y141 y147 y148 y149 y150 : Value} {f : List Bool} {a : Act} {w : World} {C : List Bool → Act → World → Prop} (h : JSwt W0 p Qb VB VN y0 y1 y2 y3 y5 y6 y7 y8 y9 y10 y11 y12 y13 y14 y16 y17 y18 y19 y20 y21 y22 y23 y24 y25 y26 y27 y28 y29 y30 y31 y32 y33 y34 y35 y36 y37 y38 y39 y40 y41 y42 y43 y44 y45 y46 y47 y48 y49 y50 y51 y52 y53 y54 y55 y56 y57 y58 y59 y60 y61 y62 y63 y64 y65 y66 y67 y68 y69 y70 y71 y72 y73 y74 y75 y76 y77 y78 y79 y80 y81 y82 y83 y84 y85 y86 y87 y88 y89 y90 y91 y92 y93 y94 y95 y96 y97 y98 y99 y100 y101 y102 y103 y104 y105 y106 y107 y108 y109 y110 y111 y112 y113 y114 y115 y116 y117 y118 y119 y120 y121 y122 y123 y124 y125 y126 y127 y128 y129 y130 y131 y132 y133 y134 y135 y136 y137 y138 y139 y140 y141 y147 y148 y149 y150 f a w)
    (k : ∀ (f0 f1 f2 f3 f4 f5 : Bool) (x142 x143 x144 x145 x146 : Value), f5 = false → Below W0.heap.size W0 w →
      Hid (f0 = true → x142 = VB) →
      Hid (f1 = true → x143 = VB) →
      Hid (f2 = true → x144 = VN) →
      Hid (f3 = true → x145 = VN) →
      Hid (f4 = true → x146 = .bool true) →
      C [f0, f1, f2, f3, f4, f5] { tmps := #[y0, y1, y2, y3, .pointer (some ⟨p, 0, none⟩), y5, y6, y7, y8, y9, y10, y11, y12, y13, y14, .pointer (some ⟨Qb, 0, none⟩), y16, y17, y18, y19, y20, y21, y22, y23, y24, y25, y26, y27, y28, y29, y30, y31, y32, y33, y34, y35, y36, y37, y38, y39, y40, y41, y42, y43, y44, y45, y46, y47, y48, y49, y50, y51, y52, y53, y54, y55, y56, y57, y58, y59, y60, y61, y62, y63, y64, y65, y66, y67, y68, y69, y70, y71, y72, y73, y74, y75, y76, y77, y78, y79, y80, y81, y82, y83, y84, y85, y86, y87, y88, y89, y90, y91, y92, y93, y94, y95, y96, y97, y98, y99, y100, y101, y102, y103, y104, y105, y106, y107, y108, y109, y110, y111, y112, y113, y114, y115, y116, y117, y118, y119, y120, y121, y122, y123, y124, y125, y126, y127, y128, y129, y130, y131, y132, y133, y134, y135, y136, y137, y138, y139, y140, y141, x142, x143, x144, x145, x146, y147, y148, y149, y150], defers := [] } w) : C f a w :=
  let ⟨f0, f1, f2, f3, f4, f5, ef, e, x142, x143, x144, x145, x146, ea, hB, h0, h1, h2, h3, h4⟩ := h
  ef ▸ ea ▸ k f0 f1 f2 f3 f4 f5 x142 x143 x144 x145 x146 e hB h0 h1 h2 h3 h4

set_option maxHeartbeats 16000000 in
set_option maxRecDepth 100000 in
theorem nodeSwaps_walk (v0 : Value) (n : Nd) (at_ : Int) (v2 : Value) (kk : List Int) (v3 : Value) (yy : List ByteArray) (w : World) (h0 : NdA w v0 n) (_ha : -9223372036854775808 ≤ at_ ∧ at_ ≤ 9223372036854775807) (h2 : Row encI 1 w v2 kk ∧ kk.length ≤ 9223372036854775807) (h3 : Row encS 1 w v3 yy ∧ yy.length ≤ 9223372036854775807) :
    Calls Try.prog 7 #[v0, .int .i64 at_, v2, v3] w fun e w' => e = .returned (.bool true) ∧ Below w.heap.size w w' := by
  obtain ⟨ve, vk, vs, rfl, h0⟩ := h0
  obtain ⟨lf, es, ks, ss⟩ := n
  obtain ⟨h2, l2⟩ := h2
  obtain ⟨h3, l3⟩ := h3
  obtain ⟨ae, ce, rfl, _⟩ := rowShape h0.e
  obtain ⟨ak, ck, rfl, _⟩ := rowShape h0.k
  obtain ⟨az, cz, rfl, _⟩ := rowShape h0.s
  obtain ⟨ao, co, rfl, _⟩ := rowShape h2
  obtain ⟨ay, cy, rfl, _⟩ := rowShape h3
  simp only at *
  have B0 : Hid (Below w.heap.size w (w.alloc (.cells #[.bool lf, .slice ae es.length ce, .slice ak ks.length ck, .slice az ss.length cz] 26))) := belAlloc _ (Below.refl _ _)
  have KP : Cl (w.alloc (.cells #[.bool lf, .slice ae es.length ce, .slice ak ks.length ck, .slice az ss.length cz] 26)) w.heap.size #[.bool lf, .slice ae es.length ce, .slice ak ks.length ck, .slice az ss.length cz] 26 := Cl.new _ _ _
  have HN := h0.below B0.out
  have HK := h2.below B0.out
  have HY := h3.below B0.out
  clear h0 h2 h3
  go_enter Try.func7, Try.ntmps7
  go_upto_region 1 with fail
  generalize w.alloc (.cells #[.bool lf, .slice ae es.length ce, .slice ak ks.length ck, .slice az ss.length cz] 26) = w0 at *
  obtain ⟨p, hp⟩ : ∃ p, w.heap.size = p := ⟨_, rfl⟩
  have HP : Hid (w.heap.size = p) := hp
  rw [hp] at KP ⊢
  clear hp
  have F1P : Aside (Cl w0 p #[.bool lf, .slice ae es.length ce, .slice ak ks.length ck, .slice az ss.length cz] 26) := KP
  have F2N : Aside (NdR w0 (.slice ae es.length ce) (.slice ak ks.length ck) (.slice az ss.length cz) ⟨lf, es, ks, ss⟩) := HN
  have F3H : Aside (Row encI 1 w0 (.slice ao kk.length co) kk) := HK
  have F4Y : Aside (Row encS 1 w0 (.slice ay yy.length cy) yy) := HY
  clear KP HN HK HY
  have C5 : Hid _ := nworks_any w0
  go_wp2_with fail
  refine Calls.mono C5.out ?_
  rintro e w5 ⟨rfl, hb5⟩
  clear C5
  have B6 : Hid (Below w.heap.size w w5) := B0.out.trans (hb5.mono B0.out.size)
  have F6P : Aside (Cl w5 p #[.bool lf, .slice ae es.length ce, .slice ak ks.length ck, .slice az ss.length cz] 26) := Cl.on F1P.out hb5
  clear F1P
  have F6N : Aside (NdR w5 (.slice ae es.length ce) (.slice ak ks.length ck) (.slice az ss.length cz) ⟨lf, es, ks, ss⟩) := F2N.out.below hb5
  clear F2N
  have F6H : Aside (Row encI 1 w5 (.slice ao kk.length co) kk) := F3H.out.below hb5
  clear F3H
  have F6Y : Aside (Row encS 1 w5 (.slice ay yy.length cy) yy) := F4Y.out.below hb5
  clear F4Y
  clear B0
  clear hb5
  obtain ⟨q6P0, q6P1, q6P2, q6P3⟩ := F6P.out.four
  have q6Pl := F6P.out.lt
  have CO : Hid _ := nover_any ⟨lf, es, ks, ss⟩ _ _ _ w5 F6N.out
  go_wp2_with fail
  refine Calls.mono CO.out ?_
  rintro e wo ⟨hov, hbo⟩
  clear CO
  clear q6P0 q6P1 q6P2 q6P3 q6Pl
  have B8 : Hid (Below w.heap.size w wo) := B6.out.trans (hbo.mono B6.out.size)
  have F8P : Aside (Cl wo p #[.bool lf, .slice ae es.length ce, .slice ak ks.length ck, .slice az ss.length cz] 26) := Cl.on F6P.out hbo
  clear F6P
  have F8N : Aside (NdR wo (.slice ae es.length ce) (.slice ak ks.length ck) (.slice az ss.length cz) ⟨lf, es, ks, ss⟩) := F6N.out.below hbo
  clear F6N
  have F8H : Aside (Row encI 1 wo (.slice ao kk.length co) kk) := F6H.out.below hbo
  clear F6H
  have F8Y : Aside (Row encS 1 wo (.slice ay yy.length cy) yy) := F6Y.out.below hbo
  clear F6Y
  clear B6
  clear hbo
  rcases hov with rfl | ⟨rfl, ov⟩
  ·
    go_wp2
    go_ret
    exact ⟨rfl, B8.out⟩
  ·
    have sm := ov.sm
    have s1 := ov.e
    have s2 := ov.k
    have s3 := ov.s
    simp only at s1 s2 s3
    obtain ⟨q8P0, q8P1, q8P2, q8P3⟩ := F8P.out.four
    have q8Pl := F8P.out.lt
    cases hr : rtN ⟨lf, es, ks, ss⟩ with
    | false =>
      have C9 : Hid _ := nright_any ⟨lf, es, ks, ss⟩ _ _ _ wo F8N.out sm
      rw [hr] at C9
      go_wp2_with fail
      refine Calls.mono C9.out ?_
      rintro e w9 ⟨rfl, hb9⟩
      clear C9
      clear q8P0 q8P1 q8P2 q8P3 q8Pl
      have B10 : Hid (Below w.heap.size w w9) := B8.out.trans (hb9.mono B8.out.size)
      have F10P : Aside (Cl w9 p #[.bool lf, .slice ae es.length ce, .slice ak ks.length ck, .slice az ss.length cz] 26) := Cl.on F8P.out hb9
      clear F8P
      have F10N : Aside (NdR w9 (.slice ae es.length ce) (.slice ak ks.length ck) (.slice az ss.length cz) ⟨lf, es, ks, ss⟩) := F8N.out.below hb9
      clear F8N
      have F10H : Aside (Row encI 1 w9 (.slice ao kk.length co) kk) := F8H.out.below hb9
      clear F8H
      have F10Y : Aside (Row encS 1 w9 (.slice ay yy.length cy) yy) := F8Y.out.below hb9
      clear F8Y
      clear B8
      clear hb9
      clear hr
      obtain ⟨q10P0, q10P1, q10P2, q10P3⟩ := F10P.out.four
      have q10Pl := F10P.out.lt
      go_wp2
      go_ret
      exact ⟨rfl, B10.out⟩
    | true =>
      have C9 : Hid _ := nright_any ⟨lf, es, ks, ss⟩ _ _ _ wo F8N.out sm
      rw [hr] at C9
      go_wp2_with fail
      refine Calls.mono C9.out ?_
      rintro e w9 ⟨rfl, hb9⟩
      clear C9
      clear q8P0 q8P1 q8P2 q8P3 q8Pl
      have B10 : Hid (Below w.heap.size w w9) := B8.out.trans (hb9.mono B8.out.size)
      have F10P : Aside (Cl w9 p #[.bool lf, .slice ae es.length ce, .slice ak ks.length ck, .slice az ss.length cz] 26) := Cl.on F8P.out hb9
      clear F8P
      have F10N : Aside (NdR w9 (.slice ae es.length ce) (.slice ak ks.length ck) (.slice az ss.length cz) ⟨lf, es, ks, ss⟩) := F8N.out.below hb9
      clear F8N
      have F10H : Aside (Row encI 1 w9 (.slice ao kk.length co) kk) := F8H.out.below hb9
      clear F8H
      have F10Y : Aside (Row encS 1 w9 (.slice ay yy.length cy) yy) := F8Y.out.below hb9
      clear F8Y
      clear B8
      clear hb9
      obtain ⟨q10P0, q10P1, q10P2, q10P3⟩ := F10P.out.four
      have q10Pl := F10P.out.lt
      cases lf with
      | true =>
        go_wp2
        go_ret
        exact ⟨rfl, B10.out⟩
      | false =>
        obtain ⟨z0, z1, z2, _, _⟩ := (rtN_inner rfl).1 hr
        simp only at z0 z1 z2
        by_cases g1 : kk.length = 0
        ·
          have g1z : ((kk.length : Int) == 0) = true := by rw [beq_iff_eq]; omega
          clear g1 z0 hr
          go_wp2
          go_ret
          exact ⟨rfl, B10.out⟩
        ·
          have g1z : ((kk.length : Int) == 0) = false := by rw [beq_eq_false_iff_ne]; omega
          by_cases g2 : 60 < kk.length
          ·
            have g2z : (60 : Int) < (kk.length : Int) := by omega
            clear z0 hr
            go_wp2
            go_ret
            exact ⟨rfl, B10.out⟩
          ·
            have g2z : ¬ (60 : Int) < (kk.length : Int) := by omega
            by_cases g3 : ¬ yy.length + 1 = kk.length
            ·
              have g3z : ((yy.length : Int) != (kk.length : Int) - 1) = true := by rw [bne_iff_ne]; omega
              clear z0 hr
              go_wp2
              go_ret
              exact ⟨rfl, B10.out⟩
            ·
              have g3' : yy.length + 1 = kk.length := Decidable.not_not.1 g3
              have g3z : ((yy.length : Int) != (kk.length : Int) - 1) = false := by rw [bne_eq_false_iff_eq]; omega
              obtain ⟨k, hk⟩ : ∃ k : Nat, min (max at_ 0) ((ks.length : Int) - 1) = (k : Int) := ⟨(min (max at_ 0) ((ks.length : Int) - 1)).toNat, by omega⟩
              have hkl : k < ks.length := by omega
              obtain ⟨swe, swb⟩ := sw_back (n := ⟨false, es, ks, ss⟩) hr rfl hkl (ks := kk) (ss := yy) (by intro e; rw [e] at g1; simp at g1) g3'
              simp only at swe swb
              obtain ⟨mk, hmk⟩ : ∃ x, ks.take k ++ kk ++ ks.drop (k + 1) = x := ⟨_, rfl⟩
              obtain ⟨ms, hms⟩ : ∃ x, ss.take k ++ yy ++ ss.drop k = x := ⟨_, rfl⟩
              rw [hmk, hms] at swe
              rw [swe] at swb
              have lm : mk.length = ks.length - 1 + kk.length := by rw [← hmk]; simp; omega
              have ls : ms.length + 1 = mk.length := by rw [lm, ← hms]; simp; omega
              have q1 : ((mk.length : Int) != (ks.length : Int) - 1 + (kk.length : Int)) = false := by rw [bne_eq_false_iff_eq]; omega
              have q2 : ((ms.length : Int) != (mk.length : Int) - 1) = false := by rw [bne_eq_false_iff_eq]; omega
              have Z0 : Hid _ := z0
              have Z2 : Hid _ := z2
              have G3 : Hid _ := g3'
              have LM : Hid _ := lm
              have LS : Hid _ := ls
              have kl1 : 1 ≤ kk.length := by omega
              have kl2 : kk.length ≤ 60 := by omega
              have yl2 : yy.length ≤ 60 := by omega
              have ml2 : mk.length ≤ 130 := by omega
              have sl2 : ms.length ≤ 130 := by omega
              clear z0 z2 g3' lm ls g1 g2
              have SWE : Hid _ := swe
              have SWB : Hid _ := swb
              have HMK : Hid _ := hmk
              clear swe swb hmk hms g3 hr
              have C11 : Hid _ := nswap_any ⟨false, es, ks, ss⟩ k ((k : Int) + 1) kk yy _ _ _ _ _ w9 F10N.out sm.l F10H.out F10Y.out (by omega) (by omega)
              rw [SWE.out] at C11
              go_wp2_with fail
              refine Calls.mono C11.out ?_
              rintro e v11 ⟨x11e, x11k, x11s, rfl, o11, h11⟩
              clear C11
              obtain ⟨a11e, c11e, rfl⟩ := ownShape (n := 0) o11.e
              obtain ⟨a11k, c11k, rfl⟩ := ownShape (n := mk.length) o11.k
              obtain ⟨a11s, c11s, rfl⟩ := ownShape (n := ms.length) o11.s
              have g11 := (belAlloc _ (belCall h11 (Below.refl _ _)) : Below w9.heap.size w9 (v11.alloc (.cells #[.bool false, .slice a11e (0) c11e, .slice a11k (mk.length) c11k, .slice a11s (ms.length) c11s] 26)))
              have F12KM : Aside (Cl (v11.alloc (.cells #[.bool false, .slice a11e (0) c11e, .slice a11k (mk.length) c11k, .slice a11s (ms.length) c11s] 26)) v11.heap.size #[.bool false, .slice a11e (0) c11e, .slice a11k (mk.length) c11k, .slice a11s (ms.length) c11s] 26) := Cl.new _ _ _
              have F13OM : Aside (NdO w9.heap.size (v11.alloc (.cells #[.bool false, .slice a11e (0) c11e, .slice a11k (mk.length) c11k, .slice a11s (ms.length) c11s] 26)) (.slice a11e (0) c11e) (.slice a11k (mk.length) c11k) (.slice a11s (ms.length) c11s) ⟨false, [], mk, ms⟩) := (o11.below (belAlloc _ (Below.refl _ _))).mono (Nat.le_refl _)
              clear q10P0 q10P1 q10P2 q10P3 q10Pl
              have B14 : Hid (Below w.heap.size w (v11.alloc (.cells #[.bool false, .slice a11e (0) c11e, .slice a11k (mk.length) c11k, .slice a11s (ms.length) c11s] 26))) := B10.out.trans (g11.mono B10.out.size)
              have F14P : Aside (Cl (v11.alloc (.cells #[.bool false, .slice a11e (0) c11e, .slice a11k (mk.length) c11k, .slice a11s (ms.length) c11s] 26)) p #[.bool false, .slice ae es.length ce, .slice ak ks.length ck, .slice az ss.length cz] 26) := Cl.on F10P.out g11
              clear F10P
              have F14N : Aside (NdR (v11.alloc (.cells #[.bool false, .slice a11e (0) c11e, .slice a11k (mk.length) c11k, .slice a11s (ms.length) c11s] 26)) (.slice ae es.length ce) (.slice ak ks.length ck) (.slice az ss.length cz) ⟨false, es, ks, ss⟩) := F10N.out.below g11
              clear F10N
              have F14H : Aside (Row encI 1 (v11.alloc (.cells #[.bool false, .slice a11e (0) c11e, .slice a11k (mk.length) c11k, .slice a11s (ms.length) c11s] 26)) (.slice ao kk.length co) kk) := F10H.out.below g11
              clear F10H
              have F14Y : Aside (Row encS 1 (v11.alloc (.cells #[.bool false, .slice a11e (0) c11e, .slice a11k (mk.length) c11k, .slice a11s (ms.length) c11s] 26)) (.slice ay yy.length cy) yy) := F10Y.out.below g11
              clear F10Y
              clear B10
              clear g11 h11 o11
              go_upto_region 9 with fail
              generalize (v11.alloc (.cells #[.bool false, .slice a11e (0) c11e, .slice a11k (mk.length) c11k, .slice a11s (ms.length) c11s] 26)) = u11 at *
              generalize v11.heap.size = QM at *
              generalize w9.heap.size = ZM at *
              obtain ⟨q14P0, q14P1, q14P2, q14P3⟩ := F14P.out.four
              have q14Pl := F14P.out.lt
              obtain ⟨q14KM0, q14KM1, q14KM2, q14KM3⟩ := F12KM.out.four
              have q14KMl := F12KM.out.lt
              go_wp2
              go_loopg [13, 14] mk.length (fun kx s13 s14 wr => ∃ (i : Nat), s13 = .int .i64 i ∧ i ≤ mk.length ∧ mk.length - i ≤ kx ∧ u11 = wr)
              case atStart => exact ⟨0, rfl, Nat.zero_le _, Nat.le_refl _, rfl⟩
              case round =>
                obtain ⟨i, rfl, hi, hki, rfl⟩ := hrel
                by_cases hil : i < mk.length
                ·
                  have hilz : (i : Int) < (mk.length : Int) := by omega
                  obtain ⟨mb, mo, rfl, mlt, mc⟩ := rowI_atR F13OM.out.r.k i hil
                  have MA : Hid _ := mk_at HMK.out hkl
                  simp only at mc
                  by_cases c1 : i < k
                  ·
                    have c1z : (i : Int) < (k : Int) := by omega
                    obtain ⟨kb, ko, rfl, klt, kc⟩ := rowI_atR F14N.out.k i (show i < ks.length by omega)
                    simp only at kc
                    rw [MA.out.1 i c1] at mc
                    generalize ks[i]! = want at *
                    clear MA
                    go_wp2
                    go_roundg (mk.length - (i + 1))
                    case measure => omega
                    case rel => exact ⟨i + 1, by go_num, by omega, Nat.le_refl _, rfl⟩
                  ·
                    have c1z : ¬ (i : Int) < (k : Int) := by omega
                    by_cases c2 : i < k + kk.length
                    ·
                      have c2z : (i : Int) < (k : Int) + (kk.length : Int) := by omega
                      obtain ⟨j, hj⟩ : ∃ j, i = k + j := ⟨i - k, by omega⟩
                      have jz : (i : Int) - (k : Int) = (j : Int) := by omega
                      obtain ⟨kb, ko, rfl, klt, kc⟩ := rowI_atR F14H.out j (by omega)
                      have e1 := MA.out.2.1 j (by omega)
                      rw [← hj] at e1
                      rw [e1] at mc
                      generalize kk[j]! = want at *
                      have j1 : j < kk.length := by omega
                      clear MA e1 hj
                      go_wp2
                      go_roundg (mk.length - (i + 1))
                      case measure => omega
                      case rel => exact ⟨i + 1, by go_num, by omega, Nat.le_refl _, rfl⟩
                    ·
                      have c2z : ¬ (i : Int) < (k : Int) + (kk.length : Int) := by omega
                      have lm := LM.out
                      obtain ⟨j, hj⟩ : ∃ j, i = j + kk.length - 1 := ⟨i + 1 - kk.length, by omega⟩
                      have jz : (i : Int) - (kk.length : Int) + 1 = (j : Int) := by omega
                      have j1 : j < ks.length := by omega
                      obtain ⟨kb, ko, rfl, klt, kc⟩ := rowI_atR F14N.out.k j j1
                      simp only at kc
                      have e1 := MA.out.2.2 j (by omega) j1
                      rw [← hj] at e1
                      rw [e1] at mc
                      generalize ks[j]! = want at *
                      clear MA e1 hj lm
                      go_wp2
                      go_roundg (mk.length - (i + 1))
                      case measure => omega
                      case rel => exact ⟨i + 1, by go_num, by omega, Nat.le_refl _, rfl⟩
                ·
                  have hilz : ¬ (i : Int) < (mk.length : Int) := by omega
                  obtain rfl : i = mk.length := by omega
                  have wkn : IntKind.i64.wrap ((k : Int) + (kk.length : Int)) = (k : Int) + (kk.length : Int) := by rw [IntKind.wrap_i64]; omega
                  have ki0 : (0 : Int) ≤ (k : Int) := by omega
                  have ki1 : (k : Int) < (ks.length : Int) := by omega
                  go_upto_region 22 with fail
                  clear q14P0 q14P1 q14P2 q14P3 q14Pl q14KM0 q14KM1 q14KM2 q14KM3 q14KMl
                  obtain ⟨kb, ko, ek, klt, kc⟩ := rowI_atR F14N.out.k k hkl
                  simp only at kc
                  subst ek
                  obtain ⟨zz, hzz⟩ : ∃ z, ks[k]! = z := ⟨_, rfl⟩
                  rw [hzz] at kc
                  have HZ : Hid (ks[k]! = zz) := hzz
                  clear hzz
                  have RM : Aside (NdR u11 (.slice a11e (0) c11e) (.slice a11k (mk.length) c11k) (.slice a11s (ms.length) c11s) ⟨false, [], mk, ms⟩) := F13OM.out.r
                  have SMM : Hid (SmL ⟨false, [], mk, ms⟩) := ⟨by simp, by simp; omega, by simp; omega⟩
                  have SWZ := SWB
                  rw [HZ.out] at SWZ
                  refine region_inv 14 (JSws u11 p QM k ks.length ck kk.length co kb ko ao zz (.agg #[.bool false, .slice a11e (0) c11e, .slice a11k (mk.length) c11k, .slice a11s (ms.length) c11s]) es ks ss _ _ _ _ _ _ _ _ _ _ _ _ _ _ _ _ _ _ _ _ _ _ _ _ _ _ _ _ _ _ _ _ _ _ _ _ _ _ _ _ _ _ _ _ _ _ _ _ _ _ _ _ _ _ _ _ _ _ _ _ _ _ _ _ _ _ _ _ _ _ _ _ _ _ _ _ _ _ _ _ _ _ _ _ _ _ _ _ _ _ _ _ _ _ _ _ _ _ _ _ _ _ _ _ _ _ _ _ _ _ _ _ _ _ _ _ _ _ _ _ _ _ _ _ _ _ _ _ _ _ _ _ _) (by kernel_rfl) (by kernel_rfl) (by kernel_rfl) ⟨false, false, false, false, false, false, false, false, false, false, false, false, false, false, false, rfl, rfl, _, _, _, _, _, _, _, _, _, _, _, _, _, _, rfl, (Below.refl _ u11).drew, (fun h => by cases h), (fun h => by cases h), (fun h => by cases h), (fun h => by cases h), (fun h => by cases h), (fun h => by cases h), (fun h => by cases h), (fun h => by cases h), (fun h => by cases h), (fun h => by cases h), (fun h => by cases h), (fun h => by cases h), (fun h => by cases h), (fun h => by cases h)⟩ ?_ ?_ ?_
                  · intro i f a w' hne hl hJ
                    refine JSws.elim hJ (C := fun f a w' => i ∈ Region.ready .any _ f.toArray → wpOp _ _ _ i (fun a' w'' => JSws u11 p QM k ks.length ck kk.length co kb ko ao zz (.agg #[.bool false, .slice a11e (0) c11e, .slice a11k (mk.length) c11k, .slice a11s (ms.length) c11s]) es ks ss _ _ _ _ _ _ _ _ _ _ _ _ _ _ _ _ _ _ _ _ _ _ _ _ _ _ _ _ _ _ _ _ _ _ _ _ _ _ _ _ _ _ _ _ _ _ _ _ _ _ _ _ _ _ _ _ _ _ _ _ _ _ _ _ _ _ _ _ _ _ _ _ _ _ _ _ _ _ _ _ _ _ _ _ _ _ _ _ _ _ _ _ _ _ _ _ _ _ _ _ _ _ _ _ _ _ _ _ _ _ _ _ _ _ _ _ _ _ _ _ _ _ _ _ _ _ _ _ _ _ _ _ _ (f.set i true) a' w'') a w') ?_
                    clear hJ hl f a
                    intro f0 f1 f2 f3 f4 f5 f6 f7 f8 f9 f10 f11 f12 f13 f14 x15 x129 x130 x131 x132 x133 x134 x135 x136 x137 x138 x139 x140 x141 e14 hB h0 h1 h2 h3 h4 h5 h6 h7 h8 h9 h10 h11 h12 h13 hi
                    obtain ⟨hlt, hun, _⟩ := ready_mem hi
                    have hlt' : i < 15 := hlt
                    clear hlt
                    rcases (by omega : i = 0 ∨ i = 1 ∨ i = 2 ∨ i = 3 ∨ i = 4 ∨ i = 5 ∨ i = 6 ∨ i = 7 ∨ i = 8 ∨ i = 9 ∨ i = 10 ∨ i = 11 ∨ i = 12 ∨ i = 13) with rfl | rfl | rfl | rfl | rfl | rfl | rfl | rfl | rfl | rfl | rfl | rfl | rfl | rfl
                    · have un : f0 = false := hun
                      clear hun
                      clear hi hne hlt'
                      obtain ⟨i0, i1, i2, i3⟩ := (F12KM.out.on hB).four
                      refine wpOp_step rfl (fun K hK => ?_)
                      have HK : Shut _ := hK
                      clear hK
                      go_simp
                      refine HK.out _ _ ?_
                      exact ⟨true, f1, f2, f3, f4, f5, f6, f7, f8, f9, f10, f11, f12, f13, f14, rfl, e14, _, _, _, _, _, _, _, _, _, _, _, _, _, _, rfl, hB, (fun _ => rfl), h1, h2, h3, h4, h5, h6, h7, h8, h9, h10, h11, h12, h13⟩
                    · have un : f1 = false := hun
                      clear hun
                      clear hi hne hlt'
                      refine wpOp_step rfl (fun K hK => ?_)
                      have HK : Shut _ := hK
                      clear hK
                      go_simp
                      refine HK.out _ _ ?_
                      exact ⟨f0, true, f2, f3, f4, f5, f6, f7, f8, f9, f10, f11, f12, f13, f14, rfl, e14, _, _, _, _, _, _, _, _, _, _, _, _, _, _, rfl, hB, h0, (fun _ => rfl), h2, h3, h4, h5, h6, h7, h8, h9, h10, h11, h12, h13⟩
                    · have un : f2 = false := hun
                      clear hun
                      clear hi hne hlt'
                      refine wpOp_step rfl (fun K hK => ?_)
                      have HK : Shut _ := hK
                      clear hK
                      go_simp
                      refine HK.out _ _ ?_
                      exact ⟨f0, f1, true, f3, f4, f5, f6, f7, f8, f9, f10, f11, f12, f13, f14, rfl, e14, _, _, _, _, _, _, _, _, _, _, _, _, _, _, rfl, hB, h0, h1, (fun _ => rfl), h3, h4, h5, h6, h7, h8, h9, h10, h11, h12, h13⟩
                    · have un : f3 = false := hun
                      clear hun
                      clear hi hne hlt'
                      refine wpOp_step rfl (fun K hK => ?_)
                      have HK : Shut _ := hK
                      clear hK
                      go_simp
                      refine HK.out _ _ ?_
                      exact ⟨f0, f1, f2, true, f4, f5, f6, f7, f8, f9, f10, f11, f12, f13, f14, rfl, e14, _, _, _, _, _, _, _, _, _, _, _, _, _, _, rfl, hB, h0, h1, h2, (fun _ => rfl), h4, h5, h6, h7, h8, h9, h10, h11, h12, h13⟩
                    · have un : f4 = false := hun
                      clear hun
                      have d3 : f3 = true := ready_dep 3 hi (by kernel_rfl)
                      have y3 := h3.out d3
                      subst y3
                      clear hi hne hlt'
                      refine wpOp_step rfl (fun K hK => ?_)
                      have HK : Shut _ := hK
                      clear hK
                      go_simp
                      refine HK.out _ _ ?_
                      exact ⟨f0, f1, f2, f3, true, f5, f6, f7, f8, f9, f10, f11, f12, f13, f14, rfl, e14, _, _, _, _, _, _, _, _, _, _, _, _, _, _, rfl, hB, h0, h1, h2, h3, (fun _ => rfl), h5, h6, h7, h8, h9, h10, h11, h12, h13⟩
                    · have un : f5 = false := hun
                      clear hun
                      have d2 : f2 = true := ready_dep 2 hi (by kernel_rfl)
                      have y2 := h2.out d2
                      subst y2
                      have d4 : f4 = true := ready_dep 4 hi (by kernel_rfl)
                      have y4 := h4.out d4
                      subst y4
                      clear hi hne hlt'
                      refine wpOp_step rfl (fun K hK => ?_)
                      have HK : Shut _ := hK
                      clear hK
                      go_simp
                      refine HK.out _ _ ?_
                      exact ⟨f0, f1, f2, f3, f4, true, f6, f7, f8, f9, f10, f11, f12, f13, f14, rfl, e14, _, _, _, _, _, _, _, _, _, _, _, _, _, _, rfl, hB, h0, h1, h2, h3, h4, (fun _ => rfl), h6, h7, h8, h9, h10, h11, h12, h13⟩
                    · have un : f6 = false := hun
                      clear hun
                      clear hi hne hlt'
                      refine wpOp_step rfl (fun K hK => ?_)
                      have HK : Shut _ := hK
                      clear hK
                      go_simp
                      refine HK.out _ _ ?_
                      exact ⟨f0, f1, f2, f3, f4, f5, true, f7, f8, f9, f10, f11, f12, f13, f14, rfl, e14, _, _, _, _, _, _, _, _, _, _, _, _, _, _, rfl, hB, h0, h1, h2, h3, h4, h5, (fun _ => rfl), h7, h8, h9, h10, h11, h12, h13⟩
                    · have un : f7 = false := hun
                      clear hun
                      have d6 : f6 = true := ready_dep 6 hi (by kernel_rfl)
                      have y6 := h6.out d6
                      subst y6
                      clear hi hne hlt'
                      obtain ⟨i0, i1, i2, i3⟩ := (F14P.out.on hB).four
                      refine wpOp_step rfl (fun K hK => ?_)
                      have HK : Shut _ := hK
                      clear hK
                      go_simp
                      refine HK.out _ _ ?_
                      exact ⟨f0, f1, f2, f3, f4, f5, f6, true, f8, f9, f10, f11, f12, f13, f14, rfl, e14, _, _, _, _, _, _, _, _, _, _, _, _, _, _, rfl, hB, h0, h1, h2, h3, h4, h5, h6, (fun _ => rfl), h8, h9, h10, h11, h12, h13⟩
                    · have un : f8 = false := hun
                      clear hun
                      clear hi hne hlt'
                      refine wpOp_step rfl (fun K hK => ?_)
                      have HK : Shut _ := hK
                      clear hK
                      go_simp
                      refine HK.out _ _ ?_
                      exact ⟨f0, f1, f2, f3, f4, f5, f6, f7, true, f9, f10, f11, f12, f13, f14, rfl, e14, _, _, _, _, _, _, _, _, _, _, _, _, _, _, rfl, hB, h0, h1, h2, h3, h4, h5, h6, h7, (fun _ => rfl), h9, h10, h11, h12, h13⟩
                    · have un : f9 = false := hun
                      clear hun
                      have d7 : f7 = true := ready_dep 7 hi (by kernel_rfl)
                      have y7 := h7.out d7
                      subst y7
                      have d8 : f8 = true := ready_dep 8 hi (by kernel_rfl)
                      have y8 := h8.out d8
                      subst y8
                      clear hi hne hlt'
                      refine wpOp_step rfl (fun K hK => ?_)
                      have HK : Shut _ := hK
                      clear hK
                      go_simp
                      refine HK.out _ _ ?_
                      exact ⟨f0, f1, f2, f3, f4, f5, f6, f7, f8, true, f10, f11, f12, f13, f14, rfl, e14, _, _, _, _, _, _, _, _, _, _, _, _, _, _, rfl, hB, h0, h1, h2, h3, h4, h5, h6, h7, h8, (fun _ => rfl), h10, h11, h12, h13⟩
                    · have un : f10 = false := hun
                      clear hun
                      have d9 : f9 = true := ready_dep 9 hi (by kernel_rfl)
                      have y9 := h9.out d9
                      subst y9
                      clear hi hne hlt'
                      have kc2 := (hB.cell (p := ⟨kb, ko + k, none⟩) klt).trans kc
                      refine wpOp_step rfl (fun K hK => ?_)
                      have HK : Shut _ := hK
                      clear hK
                      go_simp
                      refine HK.out _ _ ?_
                      exact ⟨f0, f1, f2, f3, f4, f5, f6, f7, f8, f9, true, f11, f12, f13, f14, rfl, e14, _, _, _, _, _, _, _, _, _, _, _, _, _, _, rfl, hB, h0, h1, h2, h3, h4, h5, h6, h7, h8, h9, (fun _ => rfl), h11, h12, h13⟩
                    · have un : f11 = false := hun
                      clear hun
                      have d10 : f10 = true := ready_dep 10 hi (by kernel_rfl)
                      have y10 := h10.out d10
                      subst y10
                      clear hi hne hlt'
                      refine wpOp_step rfl (fun K hK => ?_)
                      have HK : Shut _ := hK
                      clear hK
                      go_simp
                      refine HK.out _ _ ?_
                      exact ⟨f0, f1, f2, f3, f4, f5, f6, f7, f8, f9, f10, true, f12, f13, f14, rfl, e14, _, _, _, _, _, _, _, _, _, _, _, _, _, _, rfl, belAlloc _ hB, h0, h1, h2, h3, h4, h5, h6, h7, h8, h9, h10, (fun _ => ⟨_, rfl, Cl.new _ _ _⟩), (fun d => let ⟨a1, c1, a2, c2, a3, c3, e, o⟩ := h12.out d; ⟨a1, c1, a2, c2, a3, c3, e, o.below (belAlloc _ (Below.refl _ _))⟩), (fun d => let ⟨q, e, l, c⟩ := h13.out d; ⟨q, e, l, Cl.on c (belAlloc _ (Below.refl _ _))⟩)⟩
                    · have un : f12 = false := hun
                      clear hun
                      have d0 : f0 = true := ready_dep 0 hi (by kernel_rfl)
                      have y0 := h0.out d0
                      subst y0
                      have d1 : f1 = true := ready_dep 1 hi (by kernel_rfl)
                      have y1 := h1.out d1
                      subst y1
                      have d5 : f5 = true := ready_dep 5 hi (by kernel_rfl)
                      have y5 := h5.out d5
                      subst y5
                      have d11 : f11 = true := ready_dep 11 hi (by kernel_rfl)
                      obtain ⟨q11, y11, c11⟩ := h11.out d11
                      subst y11
                      clear hi hne hlt'
                      refine wpOp_step rfl (fun K hK => ?_)
                      have HK : Shut _ := hK
                      clear hK
                      go_simp
                      refine Calls.mono (by
                              have hh := nswap_any ⟨false, [], mk, ms⟩ k ((k : Int) + (kk.length : Int)) [zz] [] _ _ _ (.slice (some ⟨q11, 0, none⟩) 1 1) (.slice none 0 0) w' (RM.out.below hB) SMM.out c11.rowI rowNil (by simp) (by simp)
                              rw [SWZ.out] at hh
                              exact hh) ?_
                      rintro e w1 ⟨x1, x2, x3, rfl, ow, b1⟩
                      obtain ⟨a1, c1, rfl⟩ := ownShape (n := es.length) ow.e
                      obtain ⟨a2, c2, rfl⟩ := ownShape (n := ks.length) ow.k
                      obtain ⟨a3, c3, rfl⟩ := ownShape (n := ss.length) ow.s
                      refine HK.out _ _ ?_
                      exact ⟨f0, f1, f2, f3, f4, f5, f6, f7, f8, f9, f10, f11, true, f13, f14, rfl, e14, _, _, _, _, _, _, _, _, _, _, _, _, _, _, rfl, belCall b1 hB, h0, h1, h2, h3, h4, h5, h6, h7, h8, h9, h10, (fun d => let ⟨q, e, c⟩ := h11.out d; ⟨q, e, Cl.on c (b1)⟩), (fun _ => ⟨a1, c1, a2, c2, a3, c3, rfl, ow.mono hB.size⟩), (fun d => let ⟨q, e, l, c⟩ := h13.out d; ⟨q, e, l, Cl.on c (b1)⟩)⟩
                    · have un : f13 = false := hun
                      clear hun
                      clear hi hne hlt'
                      refine wpOp_step rfl (fun K hK => ?_)
                      have HK : Shut _ := hK
                      clear hK
                      go_simp
                      refine HK.out _ _ ?_
                      exact ⟨f0, f1, f2, f3, f4, f5, f6, f7, f8, f9, f10, f11, f12, true, f14, rfl, e14, _, _, _, _, _, _, _, _, _, _, _, _, _, _, rfl, belAlloc _ hB, h0, h1, h2, h3, h4, h5, h6, h7, h8, h9, h10, (fun d => let ⟨q, e, c⟩ := h11.out d; ⟨q, e, Cl.on c (belAlloc _ (Below.refl _ _))⟩), (fun d => let ⟨a1, c1, a2, c2, a3, c3, e, o⟩ := h12.out d; ⟨a1, c1, a2, c2, a3, c3, e, o.below (belAlloc _ (Below.refl _ _))⟩), (fun _ => ⟨_, rfl, hB.size, Cl.new _ _ _⟩)⟩
                  · intro f a w' hl hJ
                    refine JSws.elim hJ (C := fun f a w' => 14 ∈ Region.ready .any _ f.toArray → wpOp _ _ _ 14 _ a w') ?_
                    clear hJ hl f a
                    intro f0 f1 f2 f3 f4 f5 f6 f7 f8 f9 f10 f11 f12 f13 f14 x15 x129 x130 x131 x132 x133 x134 x135 x136 x137 x138 x139 x140 x141 e14 hB h0 h1 h2 h3 h4 h5 h6 h7 h8 h9 h10 h11 h12 h13 hi
                    have d12 : f12 = true := ready_dep 12 hi (by kernel_rfl)
                    obtain ⟨a12e, c12e, a12k, c12k, a12s, c12s, y12, o12⟩ := h12.out d12
                    subst y12
                    have d13 : f13 = true := ready_dep 13 hi (by kernel_rfl)
                    obtain ⟨q13, y13, l13, c13⟩ := h13.out d13
                    subst y13
                    clear hi
                    obtain ⟨y0, y1, y2, y3⟩ := c13.four
                    obtain ⟨g0, g1, g2, g3⟩ := c13.thaw
                    refine wpOp_step rfl (fun K hK => ?_)
                    have HK : Shut _ := hK
                    clear hK
                    go_simp
                    refine HK.out _ _ ?_
                    have KB : Aside (Cl ((((w'.setCell ⟨q13, 0, none⟩ (.bool false)).setCell ⟨q13, 1, none⟩ (.slice a12e es.length c12e)).setCell ⟨q13, 2, none⟩ (.slice a12k ks.length c12k)).setCell ⟨q13, 3, none⟩ (.slice a12s ss.length c12s)) q13 #[.bool false, .slice a12e es.length c12e, .slice a12k ks.length c12k, .slice a12s ss.length c12s] 26) := c13.set4 _ _ _ _
                    have bX : Below u11.heap.size u11 ((((w'.setCell ⟨q13, 0, none⟩ (.bool false)).setCell ⟨q13, 1, none⟩ (.slice a12e es.length c12e)).setCell ⟨q13, 2, none⟩ (.slice a12k ks.length c12k)).setCell ⟨q13, 3, none⟩ (.slice a12s ss.length c12s)) := belSet4 hB l13
                    have RB2 : Aside (NdR ((((w'.setCell ⟨q13, 0, none⟩ (.bool false)).setCell ⟨q13, 1, none⟩ (.slice a12e es.length c12e)).setCell ⟨q13, 2, none⟩ (.slice a12k ks.length c12k)).setCell ⟨q13, 3, none⟩ (.slice a12s ss.length c12s)) (.slice a12e es.length c12e) (.slice a12k ks.length c12k) (.slice a12s ss.length c12s) ⟨false, es, ks, ss⟩) := by
                      have h1 := ownSet4T (a := .bool false) (b := .slice a12e es.length c12e) (c := .slice a12k ks.length c12k) (d := .slice a12s ss.length c12s) o12.e c13 (by decide)
                      have h2 := ownSet4T (a := .bool false) (b := .slice a12e es.length c12e) (c := .slice a12k ks.length c12k) (d := .slice a12s ss.length c12s) o12.k c13 (by decide)
                      have h3 := ownSet4T (a := .bool false) (b := .slice a12e es.length c12e) (c := .slice a12k ks.length c12k) (d := .slice a12s ss.length c12s) o12.s c13 (by decide)
                      exact NdO.r ⟨h1, h2, h3⟩
                    have KP2 : Aside (Cl ((((w'.setCell ⟨q13, 0, none⟩ (.bool false)).setCell ⟨q13, 1, none⟩ (.slice a12e es.length c12e)).setCell ⟨q13, 2, none⟩ (.slice a12k ks.length c12k)).setCell ⟨q13, 3, none⟩ (.slice a12s ss.length c12s)) p #[.bool false, .slice ae es.length ce, .slice (some ⟨kb, ko, none⟩) ks.length ck, .slice az ss.length cz] 26) := F14P.out.on bX
                    have RN2 : Aside (NdR ((((w'.setCell ⟨q13, 0, none⟩ (.bool false)).setCell ⟨q13, 1, none⟩ (.slice a12e es.length c12e)).setCell ⟨q13, 2, none⟩ (.slice a12k ks.length c12k)).setCell ⟨q13, 3, none⟩ (.slice a12s ss.length c12s)) (.slice ae es.length ce) (.slice (some ⟨kb, ko, none⟩) ks.length ck) (.slice az ss.length cz) ⟨false, es, ks, ss⟩) := F14N.out.below bX
                    have BF : Hid (Below w.heap.size w ((((w'.setCell ⟨q13, 0, none⟩ (.bool false)).setCell ⟨q13, 1, none⟩ (.slice a12e es.length c12e)).setCell ⟨q13, 2, none⟩ (.slice a12k ks.length c12k)).setCell ⟨q13, 3, none⟩ (.slice a12s ss.length c12s))) := B14.out.trans (bX.mono B14.out.size)
                    clear o12 c13 hB bX y0 y1 y2 y3 g0 g1 g2 g3 h0 h1 h2 h3 h4 h5 h6 h7 h8 h9 h10 h11 h12 h13 F14P F14N B14
                    go_upto_region 23 with fail
                    generalize ((((w'.setCell ⟨q13, 0, none⟩ (.bool false)).setCell ⟨q13, 1, none⟩ (.slice a12e es.length c12e)).setCell ⟨q13, 2, none⟩ (.slice a12k ks.length c12k)).setCell ⟨q13, 3, none⟩ (.slice a12s ss.length c12s)) = uX at *
                    refine region_inv 5 (JSwt uX p q13 (.agg #[.bool false, .slice a12e es.length c12e, .slice a12k ks.length c12k, .slice a12s ss.length c12s]) (.agg #[.bool false, .slice ae es.length ce, .slice (some ⟨kb, ko, none⟩) ks.length ck, .slice az ss.length cz]) _ _ _ _ _ _ _ _ _ _ _ _ _ _ _ _ _ _ _ _ _ _ _ _ _ _ _ _ _ _ _ _ _ _ _ _ _ _ _ _ _ _ _ _ _ _ _ _ _ _ _ _ _ _ _ _ _ _ _ _ _ _ _ _ _ _ _ _ _ _ _ _ _ _ _ _ _ _ _ _ _ _ _ _ _ _ _ _ _ _ _ _ _ _ _ _ _ _ _ _ _ _ _ _ _ _ _ _ _ _ _ _ _ _ _ _ _ _ _ _ _ _ _ _ _ _ _ _ _ _ _ _ _ _ _ _ _ _ _ _ _ _ _ _) (by kernel_rfl) (by kernel_rfl) (by kernel_rfl) ⟨false, false, false, false, false, false, rfl, rfl, _, _, _, _, _, rfl, (Below.refl _ uX).drew, (fun h => by cases h), (fun h => by cases h), (fun h => by cases h), (fun h => by cases h), (fun h => by cases h)⟩ ?_ ?_ ?_
                    · intro i f a w' hne hl hJ
                      refine JSwt.elim hJ (C := fun f a w' => i ∈ Region.ready .any _ f.toArray → wpOp _ _ _ i (fun a' w'' => JSwt uX p q13 (.agg #[.bool false, .slice a12e es.length c12e, .slice a12k ks.length c12k, .slice a12s ss.length c12s]) (.agg #[.bool false, .slice ae es.length ce, .slice (some ⟨kb, ko, none⟩) ks.length ck, .slice az ss.length cz]) _ _ _ _ _ _ _ _ _ _ _ _ _ _ _ _ _ _ _ _ _ _ _ _ _ _ _ _ _ _ _ _ _ _ _ _ _ _ _ _ _ _ _ _ _ _ _ _ _ _ _ _ _ _ _ _ _ _ _ _ _ _ _ _ _ _ _ _ _ _ _ _ _ _ _ _ _ _ _ _ _ _ _ _ _ _ _ _ _ _ _ _ _ _ _ _ _ _ _ _ _ _ _ _ _ _ _ _ _ _ _ _ _ _ _ _ _ _ _ _ _ _ _ _ _ _ _ _ _ _ _ _ _ _ _ _ _ _ _ _ _ _ _ _ (f.set i true) a' w'') a w') ?_
                      clear hJ hl f a
                      intro f0 f1 f2 f3 f4 f5 x142 x143 x144 x145 x146 e5 hB h0 h1 h2 h3 h4 hi
                      obtain ⟨hlt, hun, _⟩ := ready_mem hi
                      have hlt' : i < 6 := hlt
                      clear hlt
                      rcases (by omega : i = 0 ∨ i = 1 ∨ i = 2 ∨ i = 3 ∨ i = 4) with rfl | rfl | rfl | rfl | rfl
                      · have un : f0 = false := hun
                        clear hun
                        clear hi hne hlt'
                        obtain ⟨i0, i1, i2, i3⟩ := (KB.out.on hB).four
                        refine wpOp_step rfl (fun K hK => ?_)
                        have HK : Shut _ := hK
                        clear hK
                        go_simp
                        refine HK.out _ _ ?_
                        exact ⟨true, f1, f2, f3, f4, f5, rfl, e5, _, _, _, _, _, rfl, hB, (fun _ => rfl), h1, h2, h3, h4⟩
                      · have un : f1 = false := hun
                        clear hun
                        have d0 : f0 = true := ready_dep 0 hi (by kernel_rfl)
                        have y0 := h0.out d0
                        subst y0
                        clear hi hne hlt'
                        refine wpOp_step rfl (fun K hK => ?_)
                        have HK : Shut _ := hK
                        clear hK
                        go_simp
                        refine Calls.mono (of_any false _ _ _ w' ⟨false, es, ks, ss⟩ (RB2.out.below hB)) ?_
                        rintro e w1 ⟨rfl, b1⟩
                        refine HK.out _ _ ?_
                        exact ⟨f0, true, f2, f3, f4, f5, rfl, e5, _, _, _, _, _, rfl, belCall b1 hB, h0, (fun _ => rfl), h2, h3, h4⟩
                      · have un : f2 = false := hun
                        clear hun
                        clear hi hne hlt'
                        obtain ⟨i0, i1, i2, i3⟩ := (KP2.out.on hB).four
                        refine wpOp_step rfl (fun K hK => ?_)
                        have HK : Shut _ := hK
                        clear hK
                        go_simp
                        refine HK.out _ _ ?_
                        exact ⟨f0, f1, true, f3, f4, f5, rfl, e5, _, _, _, _, _, rfl, hB, h0, h1, (fun _ => rfl), h3, h4⟩
                      · have un : f3 = false := hun
                        clear hun
                        have d2 : f2 = true := ready_dep 2 hi (by kernel_rfl)
                        have y2 := h2.out d2
                        subst y2
                        clear hi hne hlt'
                        refine wpOp_step rfl (fun K hK => ?_)
                        have HK : Shut _ := hK
                        clear hK
                        go_simp
                        refine Calls.mono (of_any false _ _ _ w' ⟨false, es, ks, ss⟩ (RN2.out.below hB)) ?_
                        rintro e w1 ⟨rfl, b1⟩
                        refine HK.out _ _ ?_
                        exact ⟨f0, f1, f2, true, f4, f5, rfl, e5, _, _, _, _, _, rfl, belCall b1 hB, h0, h1, h2, (fun _ => rfl), h4⟩
                      · have un : f4 = false := hun
                        clear hun
                        have d1 : f1 = true := ready_dep 1 hi (by kernel_rfl)
                        have y1 := h1.out d1
                        subst y1
                        have d3 : f3 = true := ready_dep 3 hi (by kernel_rfl)
                        have y3 := h3.out d3
                        subst y3
                        clear hi hne hlt'
                        refine wpOp_step rfl (fun K hK => ?_)
                        have HK : Shut _ := hK
                        clear hK
                        go_simp
                        refine Calls.mono (nsame_any ⟨false, es, ks, ss⟩ _ _ _ _ _ _ w' (RB2.out.below hB) (RN2.out.below hB) sm) ?_
                        rintro e w1 ⟨rfl, b1⟩
                        refine HK.out _ _ ?_
                        exact ⟨f0, f1, f2, f3, true, f5, rfl, e5, _, _, _, _, _, rfl, belCall b1 hB, h0, h1, h2, h3, (fun _ => rfl)⟩
                    · intro f a w' hl hJ
                      refine JSwt.elim hJ (C := fun f a w' => 5 ∈ Region.ready .any _ f.toArray → wpOp _ _ _ 5 _ a w') ?_
                      clear hJ hl f a
                      intro f0 f1 f2 f3 f4 f5 x142 x143 x144 x145 x146 e5 hB h0 h1 h2 h3 h4 hi
                      have d4 : f4 = true := ready_dep 4 hi (by kernel_rfl)
                      have y4 := h4.out d4
                      subst y4
                      clear hi
                      refine wpOp_step rfl (fun K hK => ?_)
                      have HK : Shut _ := hK
                      clear hK
                      go_simp
                      refine HK.out _ _ ?_
                      clear h0 h1 h2 h3 h4
                      go_wp2
                      go_ret
                      exact ⟨rfl, BF.out.trans (hB.mono BF.out.size)⟩
                    · rintro f a w' ⟨f0, f1, f2, f3, f4, f5, rfl, rfl, _⟩
                      rfl
                  · rintro f a w' ⟨f0, f1, f2, f3, f4, f5, f6, f7, f8, f9, f10, f11, f12, f13, f14, rfl, rfl, _⟩
                    rfl

end Go.Proofs.Ytmamnlphhiaeoaa
