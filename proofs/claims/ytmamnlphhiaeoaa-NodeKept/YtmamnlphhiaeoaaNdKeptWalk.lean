/-
  The walk of NodeKept.
-/
import Derived.Test.YtmamnlphhiaeoaaNdWorks
import Derived.Test.YtmamnlphhiaeoaaNdOpen
import Derived.Test.YtmamnlphhiaeoaaNdPad
import Derived.Deep.LoopGhost
namespace Go.Proofs.Ytmamnlphhiaeoaa
open Go.Shelf Go.RowKit Go.Lib Go.Sort
attribute [local go_sem ↓] Go.wp_at_zero Go.wp_at_succ

/-- How great a world is. -/
def Sz (w : World) (z : Nat) : Prop := w.heap.size = z
theorem joN_keep (lf : Bool) (es : List En) (ks : List Int) (ss : List ByteArray) : ∃ wl, joN ⟨lf, es, ks, ss⟩ ⟨#[120]⟩ ⟨lf, [], [], []⟩ = ⟨lf, es, ks, wl⟩ ∧ wl.length ≤ ss.length + 1 ∧ szK wl ≤ szK ss + 6 := by
  refine ⟨ss ++ (if lf = true then [] else [⟨#[120]⟩]), ?_, ?_, ?_⟩
  · have e := joN_same (a := ⟨lf, es, ks, ss⟩) (b := ⟨lf, [], [], []⟩) (key := ⟨#[120]⟩) rfl
    rw [e]
    simp
  · cases lf <;> simp
  · rw [szK_app]
    cases lf
    · have : szK [(⟨#[120]⟩ : ByteArray)] = 6 := by decide
      simp [this]
    · simp [szK]
theorem ndr_nil (w : World) (lf : Bool) : NdR w (.slice none 0 0) (.slice none 0 0) (.slice none 0 0) ⟨lf, [], [], []⟩ := ⟨rowNil, rowNil, rowNil⟩

theorem spA_sm {n : Nd} (h : Sm n) : Sm (spA n) := by
  obtain ⟨h1, h2, h3, h4, h5⟩ := h
  unfold spA
  split
  · refine ⟨by simp; omega, by simp, by simp, Nat.le_trans (szL_take_le _ _) h4, by simp [szK]⟩
  · refine ⟨by simp, by simp; omega, by simp; omega, by simp [szL], Nat.le_trans (szK_take_le _ _) h5⟩
theorem spB_sm {n : Nd} (h : Sm n) : Sm (spB n) := by
  obtain ⟨h1, h2, h3, h4, h5⟩ := h
  unfold spB
  split
  · refine ⟨by simp; omega, by simp, by simp, ?_, by simp [szK]⟩
    have e := List.take_append_drop (spK n) n.es
    have := szL_app (n.es.take (spK n)) (n.es.drop (spK n))
    rw [e] at this
    simp only; omega
  · refine ⟨by simp, by simp; omega, by simp; omega, by simp [szL], ?_⟩
    have e := List.take_append_drop (spK n) n.ss
    have := szK_app (n.ss.take (spK n)) (n.ss.drop (spK n))
    rw [e] at this
    simp only; omega

/-- What holds between the operations of the region. -/
def JWas (W0 : World) (p : Nat) (lf : Bool) (VN : Value) (es : List En) (ks : List Int) (wl : List ByteArray) (y0 y1 y2 y4 y5 y6 y7 y8 y9 y11 y12 y13 y14 y15 y16 y17 y18 y19 y20 y21 y22 y23 y24 y25 y26 y27 y28 y29 y30 y31 y32 y33 y34 y35 y36 y37 y38 y39 y40 y41 y42 y43 y44 y45 y46 y47 y48 y49 y56 y57 y58 y59 y60 y61 y62 y63 y64 y65 y66 y67 y68 y69 y70 y71 y72 y73 y74 y75 y76 y77 y78 y79 y80 y81 y82 y83 y84 y85 y86 y87 y88 y89 y90 y91 y92 y93 y94 y95 y96 y97 y98 y99 y100 y101 y102 y103 y104 y105 y106 y107 y108 y109 y110 y111 y112 y113 y114 y115 y116 y117 y118 y119 y120 y121 y122 y123 y124 y125 y126 y127 y128 y129 y130 y131 y132 y133 y134 y135 y136 y137 y138 y139 y140 y141 y142 y143 y144 y145 y146 y147 y148 y149 y150 y151 y152 y153 y154 y155 y156 y157 y158 y159 y160 y161 y162 y163 y164 y165 y166 y167 y168 y169 y170 y171 y172 y173 y174 y175 y176 y177 y178 y179 y180 y181 y182 y183 y184 y185 y186 y187 y188 y189 y190 y191 y192 y193 y194 y195 y196 y197 y198 y199 y200 y201 y202 y203 y204 y205 y206 y207 y208 y209 y210 y211 y212 : Value) (f : List Bool) (a : Act) (w : World) : Prop :=
  ∃ f0 f1 f2 f3 f4 f5 f6 f7 : Bool, f = [f0, f1, f2, f3, f4, f5, f6, f7] ∧ f7 = false ∧ ∃ x10 x50 x51 x52 x53 x54 x55 : Value,
    a = { tmps := #[y0, y1, y2, .pointer (some ⟨p, 0, none⟩), y4, y5, y6, y7, y8, y9, x10, y11, y12, y13, y14, y15, y16, y17, y18, y19, y20, y21, y22, y23, y24, y25, y26, y27, y28, y29, y30, y31, y32, y33, y34, y35, y36, y37, y38, y39, y40, y41, y42, y43, y44, y45, y46, y47, y48, y49, x50, x51, x52, x53, x54, x55, y56, y57, y58, y59, y60, y61, y62, y63, y64, y65, y66, y67, y68, y69, y70, y71, y72, y73, y74, y75, y76, y77, y78, y79, y80, y81, y82, y83, y84, y85, y86, y87, y88, y89, y90, y91, y92, y93, y94, y95, y96, y97, y98, y99, y100, y101, y102, y103, y104, y105, y106, y107, y108, y109, y110, y111, y112, y113, y114, y115, y116, y117, y118, y119, y120, y121, y122, y123, y124, y125, y126, y127, y128, y129, y130, y131, y132, y133, y134, y135, y136, y137, y138, y139, y140, y141, y142, y143, y144, y145, y146, y147, y148, y149, y150, y151, y152, y153, y154, y155, y156, y157, y158, y159, y160, y161, y162, y163, y164, y165, y166, y167, y168, y169, y170, y171, y172, y173, y174, y175, y176, y177, y178, y179, y180, y181, y182, y183, y184, y185, y186, y187, y188, y189, y190, y191, y192, y193, y194, y195, y196, y197, y198, y199, y200, y201, y202, y203, y204, y205, y206, y207, y208, y209, y210, y211, y212], defers := [] } ∧ Below W0.heap.size W0 w ∧
    Hid (f0 = true → x50 = VN) ∧
    Hid (f1 = true → x51 = VN) ∧
    Hid (f2 = true → x52 = .pointer (some ⟨p, 0, none⟩)) ∧
    Hid (f3 = true → x53 = .bool lf) ∧
    Hid (f4 = true → x54 = .agg #[.bool lf, .slice none 0 0, .slice none 0 0, .slice none 0 0]) ∧
    Hid (f5 = true → ∃ a1 c1 a2 c2 a3 c3, x55 = .agg #[.bool lf, .slice a1 es.length c1, .slice a2 ks.length c2, .slice a3 wl.length c3] ∧ NdO W0.heap.size w (.slice a1 es.length c1) (.slice a2 ks.length c2) (.slice a3 wl.length c3) ⟨lf, es, ks, wl⟩) ∧
    Hid (f6 = true → ∃ qq, x10 = .pointer (some ⟨qq, 0, none⟩) ∧ W0.heap.size ≤ qq ∧ Cl w qq #[.bool false, .slice none 0 0, .slice none 0 0, .slice none 0 0] 30)
theorem JWas.elim {W0 : World} {p : Nat} {lf : Bool} {VN : Value} {es : List En} {ks : List Int} {wl : List ByteArray} {y0 y1 y2 y4 y5 y6 y7 y8 y9 y11 y12 y13 y14 y15 y16 y17 y18 y19 y20 y21 y22 y23 y24 y25 y26 y27 y28 y29 y30 y31 y32 y33 y34 y35 y36 y37 y38 y39 y40 y41 y42 y43 y44 y45 y46 y47 y48 y49 y56 y57 y58 y59 y60 y61 y62 y63 y64 y65 y66 y67 y68 y69 y70 y71 y72 y73 y74 y75 y76 y77 y78 y79 y80 y81 y82 y83 y84 y85 y86 y87 y88 y89 y90 y91 y92 y93 y94 y95 y96 y97 y98 y99 y100 y101 y102 y103 y104 y105 y106 y107 y108 y109 y110 y111 y112 y113 y114 y115 y116 y117 y118 y119 y120 y121 y122 y123 y124 y125 y126 y127 y128 y129 y130 y131 y132 y133 y134 y135 y136 y137 y138 y139 y140 y141 y142 y143 y144 y145 y146 y147 y148 y149 y150 y151 y152 y153 y154 y155 y156 y157 y158 y159 y160 y161 y162 y163 y164 y165 y166 y167 y168 y169 y170 y171 y172 y173 y174 y175 y176 y177 y178 y179 y180 y181 y182 y183 y184 y185 y186 y187 y188 y189 y190 y191 y192 y193 y194 y195 y196 y197 y198 y199 y200 y201 y202 y203 y204 y205 y206 y207 y208 y209 y210 y211 y212 : Value} {f : List Bool} {a : Act} {w : World} {C : List Bool → Act → World → Prop} (h : JWas W0 p lf VN es ks wl y0 y1 y2 y4 y5 y6 y7 y8 y9 y11 y12 y13 y14 y15 y16 y17 y18 y19 y20 y21 y22 y23 y24 y25 y26 y27 y28 y29 y30 y31 y32 y33 y34 y35 y36 y37 y38 y39 y40 y41 y42 y43 y44 y45 y46 y47 y48 y49 y56 y57 y58 y59 y60 y61 y62 y63 y64 y65 y66 y67 y68 y69 y70 y71 y72 y73 y74 y75 y76 y77 y78 y79 y80 y81 y82 y83 y84 y85 y86 y87 y88 y89 y90 y91 y92 y93 y94 y95 y96 y97 y98 y99 y100 y101 y102 y103 y104 y105 y106 y107 y108 y109 y110 y111 y112 y113 y114 y115 y116 y117 y118 y119 y120 y121 y122 y123 y124 y125 y126 y127 y128 y129 y130 y131 y132 y133 y134 y135 y136 y137 y138 y139 y140 y141 y142 y143 y144 y145 y146 y147 y148 y149 y150 y151 y152 y153 y154 y155 y156 y157 y158 y159 y160 y161 y162 y163 y164 y165 y166 y167 y168 y169 y170 y171 y172 y173 y174 y175 y176 y177 y178 y179 y180 y181 y182 y183 y184 y185 y186 y187 y188 y189 y190 y191 y192 y193 y194 y195 y196 y197 y198 y199 y200 y201 y202 y203 y204 y205 y206 y207 y208 y209 y210 y211 y212 f a w)
    (k : ∀ (f0 f1 f2 f3 f4 f5 f6 f7 : Bool) (x10 x50 x51 x52 x53 x54 x55 : Value), f7 = false → Below W0.heap.size W0 w →
      Hid (f0 = true → x50 = VN) →
      Hid (f1 = true → x51 = VN) →
      Hid (f2 = true → x52 = .pointer (some ⟨p, 0, none⟩)) →
      Hid (f3 = true → x53 = .bool lf) →
      Hid (f4 = true → x54 = .agg #[.bool lf, .slice none 0 0, .slice none 0 0, .slice none 0 0]) →
      Hid (f5 = true → ∃ a1 c1 a2 c2 a3 c3, x55 = .agg #[.bool lf, .slice a1 es.length c1, .slice a2 ks.length c2, .slice a3 wl.length c3] ∧ NdO W0.heap.size w (.slice a1 es.length c1) (.slice a2 ks.length c2) (.slice a3 wl.length c3) ⟨lf, es, ks, wl⟩) →
      Hid (f6 = true → ∃ qq, x10 = .pointer (some ⟨qq, 0, none⟩) ∧ W0.heap.size ≤ qq ∧ Cl w qq #[.bool false, .slice none 0 0, .slice none 0 0, .slice none 0 0] 30) →
      C [f0, f1, f2, f3, f4, f5, f6, f7] { tmps := #[y0, y1, y2, .pointer (some ⟨p, 0, none⟩), y4, y5, y6, y7, y8, y9, x10, y11, y12, y13, y14, y15, y16, y17, y18, y19, y20, y21, y22, y23, y24, y25, y26, y27, y28, y29, y30, y31, y32, y33, y34, y35, y36, y37, y38, y39, y40, y41, y42, y43, y44, y45, y46, y47, y48, y49, x50, x51, x52, x53, x54, x55, y56, y57, y58, y59, y60, y61, y62, y63, y64, y65, y66, y67, y68, y69, y70, y71, y72, y73, y74, y75, y76, y77, y78, y79, y80, y81, y82, y83, y84, y85, y86, y87, y88, y89, y90, y91, y92, y93, y94, y95, y96, y97, y98, y99, y100, y101, y102, y103, y104, y105, y106, y107, y108, y109, y110, y111, y112, y113, y114, y115, y116, y117, y118, y119, y120, y121, y122, y123, y124, y125, y126, y127, y128, y129, y130, y131, y132, y133, y134, y135, y136, y137, y138, y139, y140, y141, y142, y143, y144, y145, y146, y147, y148, y149, y150, y151, y152, y153, y154, y155, y156, y157, y158, y159, y160, y161, y162, y163, y164, y165, y166, y167, y168, y169, y170, y171, y172, y173, y174, y175, y176, y177, y178, y179, y180, y181, y182, y183, y184, y185, y186, y187, y188, y189, y190, y191, y192, y193, y194, y195, y196, y197, y198, y199, y200, y201, y202, y203, y204, y205, y206, y207, y208, y209, y210, y211, y212], defers := [] } w) : C f a w :=
  let ⟨f0, f1, f2, f3, f4, f5, f6, f7, ef, e, x10, x50, x51, x52, x53, x54, x55, ea, hB, h0, h1, h2, h3, h4, h5, h6⟩ := h
  ef ▸ ea ▸ k f0 f1 f2 f3 f4 f5 f6 f7 x10 x50 x51 x52 x53 x54 x55 e hB h0 h1 h2 h3 h4 h5 h6

/-- What holds between the operations of the region. -/
def JNow (W0 : World) (p : Nat) (lf : Bool) (VN : Value) (es : List En) (ks : List Int) (wl : List ByteArray) (y0 y1 y2 y4 y5 y6 y7 y8 y9 y10 y11 y12 y13 y14 y15 y16 y17 y18 y20 y21 y22 y23 y24 y25 y26 y27 y28 y29 y30 y31 y32 y33 y34 y35 y36 y37 y38 y39 y40 y41 y42 y43 y44 y45 y46 y47 y48 y49 y50 y51 y52 y53 y54 y55 y56 y57 y58 y59 y60 y61 y62 y63 y64 y65 y66 y67 y68 y69 y70 y71 y72 y73 y74 y75 y76 y77 y78 y79 y80 y81 y82 y83 y84 y85 y86 y87 y88 y89 y90 y91 y92 y93 y94 y95 y96 y97 y98 y99 y100 y101 y102 y103 y104 y105 y106 y113 y114 y115 y116 y117 y118 y119 y120 y121 y122 y123 y124 y125 y126 y127 y128 y129 y130 y131 y132 y133 y134 y135 y136 y137 y138 y139 y140 y141 y142 y143 y144 y145 y146 y147 y148 y149 y150 y151 y152 y153 y154 y155 y156 y157 y158 y159 y160 y161 y162 y163 y164 y165 y166 y167 y168 y169 y170 y171 y172 y173 y174 y175 y176 y177 y178 y179 y180 y181 y182 y183 y184 y185 y186 y187 y188 y189 y190 y191 y192 y193 y194 y195 y196 y197 y198 y199 y200 y201 y202 y203 y204 y205 y206 y207 y208 y209 y210 y211 y212 : Value) (f : List Bool) (a : Act) (w : World) : Prop :=
  ∃ f0 f1 f2 f3 f4 f5 f6 f7 : Bool, f = [f0, f1, f2, f3, f4, f5, f6, f7] ∧ f7 = false ∧ ∃ x19 x107 x108 x109 x110 x111 x112 : Value,
    a = { tmps := #[y0, y1, y2, .pointer (some ⟨p, 0, none⟩), y4, y5, y6, y7, y8, y9, y10, y11, y12, y13, y14, y15, y16, y17, y18, x19, y20, y21, y22, y23, y24, y25, y26, y27, y28, y29, y30, y31, y32, y33, y34, y35, y36, y37, y38, y39, y40, y41, y42, y43, y44, y45, y46, y47, y48, y49, y50, y51, y52, y53, y54, y55, y56, y57, y58, y59, y60, y61, y62, y63, y64, y65, y66, y67, y68, y69, y70, y71, y72, y73, y74, y75, y76, y77, y78, y79, y80, y81, y82, y83, y84, y85, y86, y87, y88, y89, y90, y91, y92, y93, y94, y95, y96, y97, y98, y99, y100, y101, y102, y103, y104, y105, y106, x107, x108, x109, x110, x111, x112, y113, y114, y115, y116, y117, y118, y119, y120, y121, y122, y123, y124, y125, y126, y127, y128, y129, y130, y131, y132, y133, y134, y135, y136, y137, y138, y139, y140, y141, y142, y143, y144, y145, y146, y147, y148, y149, y150, y151, y152, y153, y154, y155, y156, y157, y158, y159, y160, y161, y162, y163, y164, y165, y166, y167, y168, y169, y170, y171, y172, y173, y174, y175, y176, y177, y178, y179, y180, y181, y182, y183, y184, y185, y186, y187, y188, y189, y190, y191, y192, y193, y194, y195, y196, y197, y198, y199, y200, y201, y202, y203, y204, y205, y206, y207, y208, y209, y210, y211, y212], defers := [] } ∧ Below W0.heap.size W0 w ∧
    Hid (f0 = true → x107 = VN) ∧
    Hid (f1 = true → x108 = VN) ∧
    Hid (f2 = true → x109 = .pointer (some ⟨p, 0, none⟩)) ∧
    Hid (f3 = true → x110 = .bool lf) ∧
    Hid (f4 = true → x111 = .agg #[.bool lf, .slice none 0 0, .slice none 0 0, .slice none 0 0]) ∧
    Hid (f5 = true → ∃ a1 c1 a2 c2 a3 c3, x112 = .agg #[.bool lf, .slice a1 es.length c1, .slice a2 ks.length c2, .slice a3 wl.length c3] ∧ NdO W0.heap.size w (.slice a1 es.length c1) (.slice a2 ks.length c2) (.slice a3 wl.length c3) ⟨lf, es, ks, wl⟩) ∧
    Hid (f6 = true → ∃ qq, x19 = .pointer (some ⟨qq, 0, none⟩) ∧ W0.heap.size ≤ qq ∧ Cl w qq #[.bool false, .slice none 0 0, .slice none 0 0, .slice none 0 0] 30)
theorem JNow.elim {W0 : World} {p : Nat} {lf : Bool} {VN : Value} {es : List En} {ks : List Int} {wl : List ByteArray} {y0 y1 y2 y4 y5 y6 y7 y8 y9 y10 y11 y12 y13 y14 y15 y16 y17 y18 y20 y21 y22 y23 y24 y25 y26 y27 y28 y29 y30 y31 y32 y33 y34 y35 y36 y37 y38 y39 y40 y41 y42 y43 y44 y45 y46 y47 y48 y49 y50 y51 y52 y53 y54 y55 y56 y57 y58 y59 y60 y61 y62 y63 y64 y65 y66 y67 y68 y69 y70 y71 y72 y73 y74 y75 y76 y77 y78 y79 y80 y81 y82 y83 y84 y85 y86 y87 y88 y89 y90 y91 y92 y93 y94 y95 y96 y97 y98 y99 y100 y101 y102 y103 y104 y105 y106 y113 y114 y115 y116 y117 y118 y119 y120 y121 y122 y123 y124 y125 y126 y127 y128 y129 y130 y131 y132 y133 y134 y135 y136 y137 y138 y139 y140 y141 y142 y143 y144 y145 y146 y147 y148 y149 y150 y151 y152 y153 y154 y155 y156 y157 y158 y159 y160 y161 y162 y163 y164 y165 y166 y167 y168 y169 y170 y171 y172 y173 y174 y175 y176 y177 y178 y179 y180 y181 y182 y183 y184 y185 y186 y187 y188 y189 y190 y191 y192 y193 y194 y195 y196 y197 y198 y199 y200 y201 y202 y203 y204 y205 y206 y207 y208 y209 y210 y211 y212 : Value} {f : List Bool} {a : Act} {w : World} {C : List Bool → Act → World → Prop} (h : JNow W0 p lf VN es ks wl y0 y1 y2 y4 y5 y6 y7 y8 y9 y10 y11 y12 y13 y14 y15 y16 y17 y18 y20 y21 y22 y23 y24 y25 y26 y27 y28 y29 y30 y31 y32 y33 y34 y35 y36 y37 y38 y39 y40 y41 y42 y43 y44 y45 y46 y47 y48 y49 y50 y51 y52 y53 y54 y55 y56 y57 y58 y59 y60 y61 y62 y63 y64 y65 y66 y67 y68 y69 y70 y71 y72 y73 y74 y75 y76 y77 y78 y79 y80 y81 y82 y83 y84 y85 y86 y87 y88 y89 y90 y91 y92 y93 y94 y95 y96 y97 y98 y99 y100 y101 y102 y103 y104 y105 y106 y113 y114 y115 y116 y117 y118 y119 y120 y121 y122 y123 y124 y125 y126 y127 y128 y129 y130 y131 y132 y133 y134 y135 y136 y137 y138 y139 y140 y141 y142 y143 y144 y145 y146 y147 y148 y149 y150 y151 y152 y153 y154 y155 y156 y157 y158 y159 y160 y161 y162 y163 y164 y165 y166 y167 y168 y169 y170 y171 y172 y173 y174 y175 y176 y177 y178 y179 y180 y181 y182 y183 y184 y185 y186 y187 y188 y189 y190 y191 y192 y193 y194 y195 y196 y197 y198 y199 y200 y201 y202 y203 y204 y205 y206 y207 y208 y209 y210 y211 y212 f a w)
    (k : ∀ (f0 f1 f2 f3 f4 f5 f6 f7 : Bool) (x19 x107 x108 x109 x110 x111 x112 : Value), f7 = false → Below W0.heap.size W0 w →
      Hid (f0 = true → x107 = VN) →
      Hid (f1 = true → x108 = VN) →
      Hid (f2 = true → x109 = .pointer (some ⟨p, 0, none⟩)) →
      Hid (f3 = true → x110 = .bool lf) →
      Hid (f4 = true → x111 = .agg #[.bool lf, .slice none 0 0, .slice none 0 0, .slice none 0 0]) →
      Hid (f5 = true → ∃ a1 c1 a2 c2 a3 c3, x112 = .agg #[.bool lf, .slice a1 es.length c1, .slice a2 ks.length c2, .slice a3 wl.length c3] ∧ NdO W0.heap.size w (.slice a1 es.length c1) (.slice a2 ks.length c2) (.slice a3 wl.length c3) ⟨lf, es, ks, wl⟩) →
      Hid (f6 = true → ∃ qq, x19 = .pointer (some ⟨qq, 0, none⟩) ∧ W0.heap.size ≤ qq ∧ Cl w qq #[.bool false, .slice none 0 0, .slice none 0 0, .slice none 0 0] 30) →
      C [f0, f1, f2, f3, f4, f5, f6, f7] { tmps := #[y0, y1, y2, .pointer (some ⟨p, 0, none⟩), y4, y5, y6, y7, y8, y9, y10, y11, y12, y13, y14, y15, y16, y17, y18, x19, y20, y21, y22, y23, y24, y25, y26, y27, y28, y29, y30, y31, y32, y33, y34, y35, y36, y37, y38, y39, y40, y41, y42, y43, y44, y45, y46, y47, y48, y49, y50, y51, y52, y53, y54, y55, y56, y57, y58, y59, y60, y61, y62, y63, y64, y65, y66, y67, y68, y69, y70, y71, y72, y73, y74, y75, y76, y77, y78, y79, y80, y81, y82, y83, y84, y85, y86, y87, y88, y89, y90, y91, y92, y93, y94, y95, y96, y97, y98, y99, y100, y101, y102, y103, y104, y105, y106, x107, x108, x109, x110, x111, x112, y113, y114, y115, y116, y117, y118, y119, y120, y121, y122, y123, y124, y125, y126, y127, y128, y129, y130, y131, y132, y133, y134, y135, y136, y137, y138, y139, y140, y141, y142, y143, y144, y145, y146, y147, y148, y149, y150, y151, y152, y153, y154, y155, y156, y157, y158, y159, y160, y161, y162, y163, y164, y165, y166, y167, y168, y169, y170, y171, y172, y173, y174, y175, y176, y177, y178, y179, y180, y181, y182, y183, y184, y185, y186, y187, y188, y189, y190, y191, y192, y193, y194, y195, y196, y197, y198, y199, y200, y201, y202, y203, y204, y205, y206, y207, y208, y209, y210, y211, y212], defers := [] } w) : C f a w :=
  let ⟨f0, f1, f2, f3, f4, f5, f6, f7, ef, e, x19, x107, x108, x109, x110, x111, x112, ea, hB, h0, h1, h2, h3, h4, h5, h6⟩ := h
  ef ▸ ea ▸ k f0 f1 f2 f3 f4 f5 f6 f7 x19 x107 x108 x109 x110 x111 x112 e hB h0 h1 h2 h3 h4 h5 h6

set_option maxHeartbeats 16000000 in
set_option maxRecDepth 100000 in
theorem nodeKept_walk (v0 : Value) (n : Nd) (v1 : Value) (n' : Nd) (key : ByteArray) (w : World) (h0 : NdA w v0 n) (h1 : NdA w v1 n') (hk : key.size ≤ maxLen) :
    Calls Try.prog 6 #[v0, v1, .string key] w fun e w' => e = .returned (.bool true) ∧ Below w.heap.size w w' := by
  unfold maxLen at hk
  obtain ⟨ve, vk, vs, rfl, h0⟩ := h0
  obtain ⟨ve', vk', vs', rfl, h1⟩ := h1
  obtain ⟨lf, es, ks, ss⟩ := n
  obtain ⟨lg, fs, ls, ts⟩ := n'
  obtain ⟨ae, ce, rfl, _⟩ := rowShape h0.e
  obtain ⟨ak, ck, rfl, _⟩ := rowShape h0.k
  obtain ⟨az, cz, rfl, _⟩ := rowShape h0.s
  obtain ⟨be, de, rfl, _⟩ := rowShape h1.e
  obtain ⟨bk, dk, rfl, _⟩ := rowShape h1.k
  obtain ⟨bz, dz, rfl, _⟩ := rowShape h1.s
  simp only at *
  have B0 : Hid (Below w.heap.size w ((w.alloc (.cells #[.bool lf, .slice ae es.length ce, .slice ak ks.length ck, .slice az ss.length cz] 26)).alloc (.cells #[.bool lg, .slice be fs.length de, .slice bk ls.length dk, .slice bz ts.length dz] 26))) := belAlloc _ (belAlloc _ (Below.refl _ _))
  have KP : Cl ((w.alloc (.cells #[.bool lf, .slice ae es.length ce, .slice ak ks.length ck, .slice az ss.length cz] 26)).alloc (.cells #[.bool lg, .slice be fs.length de, .slice bk ls.length dk, .slice bz ts.length dz] 26)) w.heap.size #[.bool lf, .slice ae es.length ce, .slice ak ks.length ck, .slice az ss.length cz] 26 := (Cl.new0 _ _ _).alloc _
  have KP2 : Cl ((w.alloc (.cells #[.bool lf, .slice ae es.length ce, .slice ak ks.length ck, .slice az ss.length cz] 26)).alloc (.cells #[.bool lg, .slice be fs.length de, .slice bk ls.length dk, .slice bz ts.length dz] 26)) (w.heap.size + 1) #[.bool lg, .slice be fs.length de, .slice bk ls.length dk, .slice bz ts.length dz] 26 := Cl.new1 _ _ _ _
  have HN := h0.below B0.out
  have HM := h1.below B0.out
  clear h0 h1
  go_enter Try.func6, Try.ntmps6
  go_upto_region 1 with fail
  generalize ((w.alloc (.cells #[.bool lf, .slice ae es.length ce, .slice ak ks.length ck, .slice az ss.length cz] 26)).alloc (.cells #[.bool lg, .slice be fs.length de, .slice bk ls.length dk, .slice bz ts.length dz] 26)) = w0 at *
  obtain ⟨p, hp⟩ : ∃ p, w.heap.size = p := ⟨_, rfl⟩
  have HP : Hid (w.heap.size = p) := hp
  rw [hp] at KP KP2 ⊢
  clear hp
  generalize p + 1 = p2 at *
  have F1P : Aside (Cl w0 p #[.bool lf, .slice ae es.length ce, .slice ak ks.length ck, .slice az ss.length cz] 26) := KP
  have F2P2 : Aside (Cl w0 p2 #[.bool lg, .slice be fs.length de, .slice bk ls.length dk, .slice bz ts.length dz] 26) := KP2
  have F3N : Aside (NdR w0 (.slice ae es.length ce) (.slice ak ks.length ck) (.slice az ss.length cz) ⟨lf, es, ks, ss⟩) := HN
  have F4M : Aside (NdR w0 (.slice be fs.length de) (.slice bk ls.length dk) (.slice bz ts.length dz) ⟨lg, fs, ls, ts⟩) := HM
  clear KP KP2 HN HM
  have C5 : Hid _ := nworks_any w0
  go_wp2_with fail
  refine Calls.mono C5.out ?_
  rintro e w5 ⟨rfl, hb5⟩
  clear C5
  have B6 : Hid (Below w.heap.size w w5) := B0.out.trans (hb5.mono B0.out.size)
  have F6P : Aside (Cl w5 p #[.bool lf, .slice ae es.length ce, .slice ak ks.length ck, .slice az ss.length cz] 26) := Cl.on F1P.out hb5
  clear F1P
  have F6P2 : Aside (Cl w5 p2 #[.bool lg, .slice be fs.length de, .slice bk ls.length dk, .slice bz ts.length dz] 26) := Cl.on F2P2.out hb5
  clear F2P2
  have F6N : Aside (NdR w5 (.slice ae es.length ce) (.slice ak ks.length ck) (.slice az ss.length cz) ⟨lf, es, ks, ss⟩) := F3N.out.below hb5
  clear F3N
  have F6M : Aside (NdR w5 (.slice be fs.length de) (.slice bk ls.length dk) (.slice bz ts.length dz) ⟨lg, fs, ls, ts⟩) := F4M.out.below hb5
  clear F4M
  clear B0
  clear hb5
  obtain ⟨q6P0, q6P1, q6P2, q6P3⟩ := F6P.out.four
  have q6Pl := F6P.out.lt
  obtain ⟨q6P20, q6P21, q6P22, q6P23⟩ := F6P2.out.four
  have q6P2l := F6P2.out.lt
  have CO : Hid _ := nover_any ⟨lf, es, ks, ss⟩ _ _ _ w5 F6N.out
  go_wp2_with fail
  refine Calls.mono CO.out ?_
  rintro e wva ⟨hva, hbva⟩
  clear CO
  clear q6P0 q6P1 q6P2 q6P3 q6Pl q6P20 q6P21 q6P22 q6P23 q6P2l
  have B8 : Hid (Below w.heap.size w wva) := B6.out.trans (hbva.mono B6.out.size)
  have F8P : Aside (Cl wva p #[.bool lf, .slice ae es.length ce, .slice ak ks.length ck, .slice az ss.length cz] 26) := Cl.on F6P.out hbva
  clear F6P
  have F8P2 : Aside (Cl wva p2 #[.bool lg, .slice be fs.length de, .slice bk ls.length dk, .slice bz ts.length dz] 26) := Cl.on F6P2.out hbva
  clear F6P2
  have F8N : Aside (NdR wva (.slice ae es.length ce) (.slice ak ks.length ck) (.slice az ss.length cz) ⟨lf, es, ks, ss⟩) := F6N.out.below hbva
  clear F6N
  have F8M : Aside (NdR wva (.slice be fs.length de) (.slice bk ls.length dk) (.slice bz ts.length dz) ⟨lg, fs, ls, ts⟩) := F6M.out.below hbva
  clear F6M
  clear B6
  clear hbva
  have va : ∃ c : Bool, e = .returned (.bool c) ∧ (c = false → Ov ⟨lf, es, ks, ss⟩) := by
    rcases hva with h | ⟨h, ov⟩
    · exact ⟨true, h, fun e => by cases e⟩
    · exact ⟨false, h, fun _ => ov⟩
  obtain ⟨cva, rfl, ova⟩ := va
  clear hva
  have Ova : Hid _ := ova
  clear ova
  obtain ⟨q8P0, q8P1, q8P2, q8P3⟩ := F8P.out.four
  have q8Pl := F8P.out.lt
  obtain ⟨q8P20, q8P21, q8P22, q8P23⟩ := F8P2.out.four
  have q8P2l := F8P2.out.lt
  have CO : Hid _ := nover_any ⟨lg, fs, ls, ts⟩ _ _ _ wva F8M.out
  go_wp2_with fail
  refine Calls.mono CO.out ?_
  rintro e wvb ⟨hvb, hbvb⟩
  clear CO
  clear q8P0 q8P1 q8P2 q8P3 q8Pl q8P20 q8P21 q8P22 q8P23 q8P2l
  have B10 : Hid (Below w.heap.size w wvb) := B8.out.trans (hbvb.mono B8.out.size)
  have F10P : Aside (Cl wvb p #[.bool lf, .slice ae es.length ce, .slice ak ks.length ck, .slice az ss.length cz] 26) := Cl.on F8P.out hbvb
  clear F8P
  have F10P2 : Aside (Cl wvb p2 #[.bool lg, .slice be fs.length de, .slice bk ls.length dk, .slice bz ts.length dz] 26) := Cl.on F8P2.out hbvb
  clear F8P2
  have F10N : Aside (NdR wvb (.slice ae es.length ce) (.slice ak ks.length ck) (.slice az ss.length cz) ⟨lf, es, ks, ss⟩) := F8N.out.below hbvb
  clear F8N
  have F10M : Aside (NdR wvb (.slice be fs.length de) (.slice bk ls.length dk) (.slice bz ts.length dz) ⟨lg, fs, ls, ts⟩) := F8M.out.below hbvb
  clear F8M
  clear B8
  clear hbvb
  have vb : ∃ c : Bool, e = .returned (.bool c) ∧ (c = false → Ov ⟨lg, fs, ls, ts⟩) := by
    rcases hvb with h | ⟨h, ov⟩
    · exact ⟨true, h, fun e => by cases e⟩
    · exact ⟨false, h, fun _ => ov⟩
  obtain ⟨cvb, rfl, ovb⟩ := vb
  clear hvb
  have Ovb : Hid _ := ovb
  clear ovb
  cases cva with
  | true =>
    go_wp2
    go_ret
    exact ⟨rfl, B10.out⟩
  | false =>
    cases cvb with
    | true =>
      go_wp2
      go_ret
      exact ⟨rfl, B10.out⟩
    | false =>
      by_cases hkl : 60 < key.size
      ·
        have hklz : (60 : Int) < (key.size : Int) := by omega
        go_wp2
        go_ret
        exact ⟨rfl, B10.out⟩
      ·
        have hklz : ¬ (60 : Int) < (key.size : Int) := by omega
        have ov := Ova.out rfl
        have ov2 := Ovb.out rfl
        have sm := ov.sm
        have sm2 := ov2.sm
        have s1 := ov.e
        have s2 := ov.k
        have s3 := ov.s
        have z1 := ov2.e
        have z2 := ov2.k
        have z3 := ov2.s
        simp only at s1 s2 s3 z1 z2 z3
        clear Ova Ovb
        obtain ⟨q10P0, q10P1, q10P2, q10P3⟩ := F10P.out.four
        have q10Pl := F10P.out.lt
        obtain ⟨q10P20, q10P21, q10P22, q10P23⟩ := F10P2.out.four
        have q10P2l := F10P2.out.lt
        cases hr : rtN ⟨lf, es, ks, ss⟩ with
        | false =>
          have C11 : Hid _ := nright_any ⟨lf, es, ks, ss⟩ _ _ _ wvb F10N.out sm
          rw [hr] at C11
          go_wp2_with fail
          refine Calls.mono C11.out ?_
          rintro e w11 ⟨rfl, hb11⟩
          clear C11
          clear q10P0 q10P1 q10P2 q10P3 q10Pl q10P20 q10P21 q10P22 q10P23 q10P2l
          have B12 : Hid (Below w.heap.size w w11) := B10.out.trans (hb11.mono B10.out.size)
          have F12P : Aside (Cl w11 p #[.bool lf, .slice ae es.length ce, .slice ak ks.length ck, .slice az ss.length cz] 26) := Cl.on F10P.out hb11
          clear F10P
          have F12P2 : Aside (Cl w11 p2 #[.bool lg, .slice be fs.length de, .slice bk ls.length dk, .slice bz ts.length dz] 26) := Cl.on F10P2.out hb11
          clear F10P2
          have F12N : Aside (NdR w11 (.slice ae es.length ce) (.slice ak ks.length ck) (.slice az ss.length cz) ⟨lf, es, ks, ss⟩) := F10N.out.below hb11
          clear F10N
          have F12M : Aside (NdR w11 (.slice be fs.length de) (.slice bk ls.length dk) (.slice bz ts.length dz) ⟨lg, fs, ls, ts⟩) := F10M.out.below hb11
          clear F10M
          clear B10
          clear hb11
          clear hr
          go_wp2
          go_ret
          exact ⟨rfl, B12.out⟩
        | true =>
          have C11 : Hid _ := nright_any ⟨lf, es, ks, ss⟩ _ _ _ wvb F10N.out sm
          rw [hr] at C11
          go_wp2_with fail
          refine Calls.mono C11.out ?_
          rintro e w11 ⟨rfl, hb11⟩
          clear C11
          clear q10P0 q10P1 q10P2 q10P3 q10Pl q10P20 q10P21 q10P22 q10P23 q10P2l
          have B12 : Hid (Below w.heap.size w w11) := B10.out.trans (hb11.mono B10.out.size)
          have F12P : Aside (Cl w11 p #[.bool lf, .slice ae es.length ce, .slice ak ks.length ck, .slice az ss.length cz] 26) := Cl.on F10P.out hb11
          clear F10P
          have F12P2 : Aside (Cl w11 p2 #[.bool lg, .slice be fs.length de, .slice bk ls.length dk, .slice bz ts.length dz] 26) := Cl.on F10P2.out hb11
          clear F10P2
          have F12N : Aside (NdR w11 (.slice ae es.length ce) (.slice ak ks.length ck) (.slice az ss.length cz) ⟨lf, es, ks, ss⟩) := F10N.out.below hb11
          clear F10N
          have F12M : Aside (NdR w11 (.slice be fs.length de) (.slice bk ls.length dk) (.slice bz ts.length dz) ⟨lg, fs, ls, ts⟩) := F10M.out.below hb11
          clear F10M
          clear B10
          clear hb11
          have HR : Hid _ := hr
          clear hr
          obtain ⟨wl, jw, wl1, wl2⟩ := joN_keep lf es ks ss
          have JW : Hid _ := jw
          clear jw
          have SW : Hid (Sm ⟨lf, es, ks, wl⟩) := ⟨sm.e, sm.k, by simp only; omega, sm.ez, by have := sm.sz; have := szK_bound (l := ss) (b := 60) (fun x hx => ov.sz x hx); simp only at *; omega⟩
          go_upto_region 8 with fail
          refine region_inv 7 (JWas w11 p lf (.agg #[.bool lf, .slice ae es.length ce, .slice ak ks.length ck, .slice az ss.length cz]) es ks wl _ _ _ _ _ _ _ _ _ _ _ _ _ _ _ _ _ _ _ _ _ _ _ _ _ _ _ _ _ _ _ _ _ _ _ _ _ _ _ _ _ _ _ _ _ _ _ _ _ _ _ _ _ _ _ _ _ _ _ _ _ _ _ _ _ _ _ _ _ _ _ _ _ _ _ _ _ _ _ _ _ _ _ _ _ _ _ _ _ _ _ _ _ _ _ _ _ _ _ _ _ _ _ _ _ _ _ _ _ _ _ _ _ _ _ _ _ _ _ _ _ _ _ _ _ _ _ _ _ _ _ _ _ _ _ _ _ _ _ _ _ _ _ _ _ _ _ _ _ _ _ _ _ _ _ _ _ _ _ _ _ _ _ _ _ _ _ _ _ _ _ _ _ _ _ _ _ _ _ _ _ _ _ _ _ _ _ _ _ _ _ _ _ _ _ _ _ _ _ _ _ _ _ _ _) (by kernel_rfl) (by kernel_rfl) (by kernel_rfl) ⟨false, false, false, false, false, false, false, false, rfl, rfl, _, _, _, _, _, _, _, rfl, (Below.refl _ w11).drew, (fun h => by cases h), (fun h => by cases h), (fun h => by cases h), (fun h => by cases h), (fun h => by cases h), (fun h => by cases h), (fun h => by cases h)⟩ ?_ ?_ ?_
          · intro i f a w' hne hl hJ
            refine JWas.elim hJ (C := fun f a w' => i ∈ Region.ready .any _ f.toArray → wpOp _ _ _ i (fun a' w'' => JWas w11 p lf (.agg #[.bool lf, .slice ae es.length ce, .slice ak ks.length ck, .slice az ss.length cz]) es ks wl _ _ _ _ _ _ _ _ _ _ _ _ _ _ _ _ _ _ _ _ _ _ _ _ _ _ _ _ _ _ _ _ _ _ _ _ _ _ _ _ _ _ _ _ _ _ _ _ _ _ _ _ _ _ _ _ _ _ _ _ _ _ _ _ _ _ _ _ _ _ _ _ _ _ _ _ _ _ _ _ _ _ _ _ _ _ _ _ _ _ _ _ _ _ _ _ _ _ _ _ _ _ _ _ _ _ _ _ _ _ _ _ _ _ _ _ _ _ _ _ _ _ _ _ _ _ _ _ _ _ _ _ _ _ _ _ _ _ _ _ _ _ _ _ _ _ _ _ _ _ _ _ _ _ _ _ _ _ _ _ _ _ _ _ _ _ _ _ _ _ _ _ _ _ _ _ _ _ _ _ _ _ _ _ _ _ _ _ _ _ _ _ _ _ _ _ _ _ _ _ _ _ _ _ _ (f.set i true) a' w'') a w') ?_
            clear hJ hl f a
            intro f0 f1 f2 f3 f4 f5 f6 f7 x10 x50 x51 x52 x53 x54 x55 e7 hB h0 h1 h2 h3 h4 h5 h6 hi
            obtain ⟨hlt, hun, _⟩ := ready_mem hi
            have hlt' : i < 8 := hlt
            clear hlt
            rcases (by omega : i = 0 ∨ i = 1 ∨ i = 2 ∨ i = 3 ∨ i = 4 ∨ i = 5 ∨ i = 6) with rfl | rfl | rfl | rfl | rfl | rfl | rfl
            · have un : f0 = false := hun
              clear hun
              clear hi hne hlt'
              obtain ⟨i0, i1, i2, i3⟩ := (F12P.out.on hB).four
              refine wpOp_step rfl (fun K hK => ?_)
              have HK : Shut _ := hK
              clear hK
              go_simp
              refine HK.out _ _ ?_
              exact ⟨true, f1, f2, f3, f4, f5, f6, f7, rfl, e7, _, _, _, _, _, _, _, rfl, hB, (fun _ => rfl), h1, h2, h3, h4, h5, h6⟩
            · have un : f1 = false := hun
              clear hun
              have d0 : f0 = true := ready_dep 0 hi (by kernel_rfl)
              have y0 := h0.out d0
              subst y0
              clear hi hne hlt'
              refine wpOp_step rfl (fun K hK => ?_)
              have HK : Shut _ := hK
              clear hK
              go_simp
              refine Calls.mono (of_any lf _ _ _ w' ⟨lf, es, ks, ss⟩ (F12N.out.below hB)) ?_
              rintro e w1 ⟨rfl, b1⟩
              refine HK.out _ _ ?_
              exact ⟨f0, true, f2, f3, f4, f5, f6, f7, rfl, e7, _, _, _, _, _, _, _, rfl, belCall b1 hB, h0, (fun _ => rfl), h2, h3, h4, (fun d => let ⟨a1, c1, a2, c2, a3, c3, e, o⟩ := h5.out d; ⟨a1, c1, a2, c2, a3, c3, e, o.below (b1)⟩), (fun d => let ⟨q, e, l, c⟩ := h6.out d; ⟨q, e, l, Cl.on c (b1)⟩)⟩
            · have un : f2 = false := hun
              clear hun
              clear hi hne hlt'
              refine wpOp_step rfl (fun K hK => ?_)
              have HK : Shut _ := hK
              clear hK
              go_simp
              refine HK.out _ _ ?_
              exact ⟨f0, f1, true, f3, f4, f5, f6, f7, rfl, e7, _, _, _, _, _, _, _, rfl, hB, h0, h1, (fun _ => rfl), h3, h4, h5, h6⟩
            · have un : f3 = false := hun
              clear hun
              have d2 : f2 = true := ready_dep 2 hi (by kernel_rfl)
              have y2 := h2.out d2
              subst y2
              clear hi hne hlt'
              obtain ⟨i0, i1, i2, i3⟩ := (F12P.out.on hB).four
              refine wpOp_step rfl (fun K hK => ?_)
              have HK : Shut _ := hK
              clear hK
              go_simp
              refine HK.out _ _ ?_
              exact ⟨f0, f1, f2, true, f4, f5, f6, f7, rfl, e7, _, _, _, _, _, _, _, rfl, hB, h0, h1, h2, (fun _ => rfl), h4, h5, h6⟩
            · have un : f4 = false := hun
              clear hun
              have d3 : f3 = true := ready_dep 3 hi (by kernel_rfl)
              have y3 := h3.out d3
              subst y3
              clear hi hne hlt'
              refine wpOp_step rfl (fun K hK => ?_)
              have HK : Shut _ := hK
              clear hK
              go_simp
              refine HK.out _ _ ?_
              exact ⟨f0, f1, f2, f3, true, f5, f6, f7, rfl, e7, _, _, _, _, _, _, _, rfl, hB, h0, h1, h2, h3, (fun _ => rfl), h5, h6⟩
            · have un : f5 = false := hun
              clear hun
              have d1 : f1 = true := ready_dep 1 hi (by kernel_rfl)
              have y1 := h1.out d1
              subst y1
              have d4 : f4 = true := ready_dep 4 hi (by kernel_rfl)
              have y4 := h4.out d4
              subst y4
              clear hi hne hlt'
              refine wpOp_step rfl (fun K hK => ?_)
              have HK : Shut _ := hK
              clear hK
              go_simp
              refine Calls.mono (by
                      have hh := rnjoin_same ⟨#[120]⟩ ⟨lf, es, ks, ss⟩ ⟨lf, [], [], []⟩ _ _ _ _ _ _ w' (F12N.out.below hB) (ndr_nil w' lf) sm.l ⟨by simp, by simp, by simp⟩ rfl
                      rw [JW.out] at hh
                      exact hh) ?_
              rintro e w1 ⟨x1, x2, x3, rfl, ow, b1⟩
              obtain ⟨a1, c1, rfl⟩ := ownShape (n := es.length) ow.e
              obtain ⟨a2, c2, rfl⟩ := ownShape (n := ks.length) ow.k
              obtain ⟨a3, c3, rfl⟩ := ownShape (n := wl.length) ow.s
              refine HK.out _ _ ?_
              exact ⟨f0, f1, f2, f3, f4, true, f6, f7, rfl, e7, _, _, _, _, _, _, _, rfl, belCall b1 hB, h0, h1, h2, h3, h4, (fun _ => ⟨a1, c1, a2, c2, a3, c3, rfl, ow.mono hB.size⟩), (fun d => let ⟨q, e, l, c⟩ := h6.out d; ⟨q, e, l, Cl.on c (b1)⟩)⟩
            · have un : f6 = false := hun
              clear hun
              clear hi hne hlt'
              refine wpOp_step rfl (fun K hK => ?_)
              have HK : Shut _ := hK
              clear hK
              go_simp
              refine HK.out _ _ ?_
              exact ⟨f0, f1, f2, f3, f4, f5, true, f7, rfl, e7, _, _, _, _, _, _, _, rfl, belAlloc _ hB, h0, h1, h2, h3, h4, (fun d => let ⟨a1, c1, a2, c2, a3, c3, e, o⟩ := h5.out d; ⟨a1, c1, a2, c2, a3, c3, e, o.below (belAlloc _ (Below.refl _ _))⟩), (fun _ => ⟨_, rfl, hB.size, Cl.new _ _ _⟩)⟩
          · intro f a w' hl hJ
            refine JWas.elim hJ (C := fun f a w' => 7 ∈ Region.ready .any _ f.toArray → wpOp _ _ _ 7 _ a w') ?_
            clear hJ hl f a
            intro f0 f1 f2 f3 f4 f5 f6 f7 x10 x50 x51 x52 x53 x54 x55 e7 hB h0 h1 h2 h3 h4 h5 h6 hi
            have d5 : f5 = true := ready_dep 5 hi (by kernel_rfl)
            obtain ⟨a5e, c5e, a5k, c5k, a5s, c5s, y5, o5⟩ := h5.out d5
            subst y5
            have d6 : f6 = true := ready_dep 6 hi (by kernel_rfl)
            obtain ⟨q6, y6, l6, c6⟩ := h6.out d6
            subst y6
            clear hi
            obtain ⟨y0, y1, y2, y3⟩ := c6.four
            obtain ⟨g0, g1, g2, g3⟩ := c6.thaw
            refine wpOp_step rfl (fun K hK => ?_)
            have HK : Shut _ := hK
            clear hK
            go_simp
            refine HK.out _ _ ?_
            have bX : Below w11.heap.size w11 ((((w'.setCell ⟨q6, 0, none⟩ (.bool lf)).setCell ⟨q6, 1, none⟩ (.slice a5e es.length c5e)).setCell ⟨q6, 2, none⟩ (.slice a5k ks.length c5k)).setCell ⟨q6, 3, none⟩ (.slice a5s wl.length c5s)) := belSet4 hB l6
            have KW : Aside (Cl ((((w'.setCell ⟨q6, 0, none⟩ (.bool lf)).setCell ⟨q6, 1, none⟩ (.slice a5e es.length c5e)).setCell ⟨q6, 2, none⟩ (.slice a5k ks.length c5k)).setCell ⟨q6, 3, none⟩ (.slice a5s wl.length c5s)) q6 #[.bool lf, .slice a5e es.length c5e, .slice a5k ks.length c5k, .slice a5s wl.length c5s] 30) := c6.set4 _ _ _ _
            have RW : Aside (NdR ((((w'.setCell ⟨q6, 0, none⟩ (.bool lf)).setCell ⟨q6, 1, none⟩ (.slice a5e es.length c5e)).setCell ⟨q6, 2, none⟩ (.slice a5k ks.length c5k)).setCell ⟨q6, 3, none⟩ (.slice a5s wl.length c5s)) (.slice a5e es.length c5e) (.slice a5k ks.length c5k) (.slice a5s wl.length c5s) ⟨lf, es, ks, wl⟩) := by
              have h1 := ownSet4T (a := .bool lf) (b := .slice a5e es.length c5e) (c := .slice a5k ks.length c5k) (d := .slice a5s wl.length c5s) o5.e c6 (by decide)
              have h2 := ownSet4T (a := .bool lf) (b := .slice a5e es.length c5e) (c := .slice a5k ks.length c5k) (d := .slice a5s wl.length c5s) o5.k c6 (by decide)
              have h3 := ownSet4T (a := .bool lf) (b := .slice a5e es.length c5e) (c := .slice a5k ks.length c5k) (d := .slice a5s wl.length c5s) o5.s c6 (by decide)
              exact NdO.r ⟨h1, h2, h3⟩
            have GWP : Aside (Cl ((((w'.setCell ⟨q6, 0, none⟩ (.bool lf)).setCell ⟨q6, 1, none⟩ (.slice a5e es.length c5e)).setCell ⟨q6, 2, none⟩ (.slice a5k ks.length c5k)).setCell ⟨q6, 3, none⟩ (.slice a5s wl.length c5s)) p #[.bool lf, .slice ae es.length ce, .slice ak ks.length ck, .slice az ss.length cz] 26) := Cl.on F12P.out bX
            have GWP2 : Aside (Cl ((((w'.setCell ⟨q6, 0, none⟩ (.bool lf)).setCell ⟨q6, 1, none⟩ (.slice a5e es.length c5e)).setCell ⟨q6, 2, none⟩ (.slice a5k ks.length c5k)).setCell ⟨q6, 3, none⟩ (.slice a5s wl.length c5s)) p2 #[.bool lg, .slice be fs.length de, .slice bk ls.length dk, .slice bz ts.length dz] 26) := Cl.on F12P2.out bX
            have GWN : Aside (NdR ((((w'.setCell ⟨q6, 0, none⟩ (.bool lf)).setCell ⟨q6, 1, none⟩ (.slice a5e es.length c5e)).setCell ⟨q6, 2, none⟩ (.slice a5k ks.length c5k)).setCell ⟨q6, 3, none⟩ (.slice a5s wl.length c5s)) (.slice ae es.length ce) (.slice ak ks.length ck) (.slice az ss.length cz) ⟨lf, es, ks, ss⟩) := F12N.out.below bX
            have GWM : Aside (NdR ((((w'.setCell ⟨q6, 0, none⟩ (.bool lf)).setCell ⟨q6, 1, none⟩ (.slice a5e es.length c5e)).setCell ⟨q6, 2, none⟩ (.slice a5k ks.length c5k)).setCell ⟨q6, 3, none⟩ (.slice a5s wl.length c5s)) (.slice be fs.length de) (.slice bk ls.length dk) (.slice bz ts.length dz) ⟨lg, fs, ls, ts⟩) := F12M.out.below bX
            have BW : Hid (Below w.heap.size w ((((w'.setCell ⟨q6, 0, none⟩ (.bool lf)).setCell ⟨q6, 1, none⟩ (.slice a5e es.length c5e)).setCell ⟨q6, 2, none⟩ (.slice a5k ks.length c5k)).setCell ⟨q6, 3, none⟩ (.slice a5s wl.length c5s))) := B12.out.trans (bX.mono B12.out.size)
            clear o5 c6 hB bX y0 y1 y2 y3 g0 g1 g2 g3 h0 h1 h2 h3 h4 h5 h6 F12P F12P2 F12N F12M B12
            go_upto_region 9 with fail
            clear l6
            generalize ((((w'.setCell ⟨q6, 0, none⟩ (.bool lf)).setCell ⟨q6, 1, none⟩ (.slice a5e es.length c5e)).setCell ⟨q6, 2, none⟩ (.slice a5k ks.length c5k)).setCell ⟨q6, 3, none⟩ (.slice a5s wl.length c5s)) = uw at *
            generalize q6 = QW at *
            generalize a5e = wae at *
            generalize c5e = wce at *
            generalize a5k = wak at *
            generalize c5k = wck at *
            generalize a5s = was at *
            generalize c5s = wcs at *
            obtain ⟨A, hA⟩ : ∃ x, sA ⟨lf, es, ks, ss⟩ = x := ⟨_, rfl⟩
            obtain ⟨mid, hM⟩ : ∃ x, sM ⟨lf, es, ks, ss⟩ = x := ⟨_, rfl⟩
            obtain ⟨B, hB⟩ : ∃ x, sB ⟨lf, es, ks, ss⟩ = x := ⟨_, rfl⟩
            have HA : Hid _ := hA
            have HMd : Hid _ := hM
            have HBn : Hid _ := hB
            clear hA hM hB
            obtain ⟨q12P0, q12P1, q12P2, q12P3⟩ := GWP.out.four
            have q12Pl := GWP.out.lt
            obtain ⟨q12P20, q12P21, q12P22, q12P23⟩ := GWP2.out.four
            have q12P2l := GWP2.out.lt
            have C13 : Hid _ := split_any ⟨lf, es, ks, ss⟩ _ _ _ uw GWN.out sm
            rw [HA.out] at C13
            rw [HMd.out] at C13
            rw [HBn.out] at C13
            go_wp2_with fail
            refine Calls.mono C13.out ?_
            rintro e v13 ⟨x13e, x13k, x13s, y13e, y13k, y13s, rfl, o13, p13, h13⟩
            clear C13
            obtain ⟨a13e, c13e, rfl⟩ := ownShape (n := A.es.length) o13.e
            obtain ⟨a13k, c13k, rfl⟩ := ownShape (n := A.ks.length) o13.k
            obtain ⟨a13s, c13s, rfl⟩ := ownShape (n := A.ss.length) o13.s
            obtain ⟨b13e, d13e, rfl⟩ := ownShape (n := B.es.length) p13.e
            obtain ⟨b13k, d13k, rfl⟩ := ownShape (n := B.ks.length) p13.k
            obtain ⟨b13s, d13s, rfl⟩ := ownShape (n := B.ss.length) p13.s
            have g13 := (belAlloc _ (belAlloc _ h13) : Below uw.heap.size uw ((v13.alloc (.cells #[.bool A.leaf, .slice a13e (A.es.length) c13e, .slice a13k (A.ks.length) c13k, .slice a13s (A.ss.length) c13s] 26)).alloc (.cells #[.bool B.leaf, .slice b13e (B.es.length) d13e, .slice b13k (B.ks.length) d13k, .slice b13s (B.ss.length) d13s] 26)))
            have F14KA : Aside (Cl ((v13.alloc (.cells #[.bool A.leaf, .slice a13e (A.es.length) c13e, .slice a13k (A.ks.length) c13k, .slice a13s (A.ss.length) c13s] 26)).alloc (.cells #[.bool B.leaf, .slice b13e (B.es.length) d13e, .slice b13k (B.ks.length) d13k, .slice b13s (B.ss.length) d13s] 26)) v13.heap.size #[.bool A.leaf, .slice a13e (A.es.length) c13e, .slice a13k (A.ks.length) c13k, .slice a13s (A.ss.length) c13s] 26) := (Cl.new0 _ _ _).alloc _
            have F15KB : Aside (Cl ((v13.alloc (.cells #[.bool A.leaf, .slice a13e (A.es.length) c13e, .slice a13k (A.ks.length) c13k, .slice a13s (A.ss.length) c13s] 26)).alloc (.cells #[.bool B.leaf, .slice b13e (B.es.length) d13e, .slice b13k (B.ks.length) d13k, .slice b13s (B.ss.length) d13s] 26)) (v13.heap.size + 1) #[.bool B.leaf, .slice b13e (B.es.length) d13e, .slice b13k (B.ks.length) d13k, .slice b13s (B.ss.length) d13s] 26) := Cl.new1 _ _ _ _
            have F16OA : Aside (NdO uw.heap.size ((v13.alloc (.cells #[.bool A.leaf, .slice a13e (A.es.length) c13e, .slice a13k (A.ks.length) c13k, .slice a13s (A.ss.length) c13s] 26)).alloc (.cells #[.bool B.leaf, .slice b13e (B.es.length) d13e, .slice b13k (B.ks.length) d13k, .slice b13s (B.ss.length) d13s] 26)) (.slice a13e (A.es.length) c13e) (.slice a13k (A.ks.length) c13k) (.slice a13s (A.ss.length) c13s) A) := o13.below (belAlloc _ (belAlloc _ (Below.refl _ _)))
            have F17OB : Aside (NdO uw.heap.size ((v13.alloc (.cells #[.bool A.leaf, .slice a13e (A.es.length) c13e, .slice a13k (A.ks.length) c13k, .slice a13s (A.ss.length) c13s] 26)).alloc (.cells #[.bool B.leaf, .slice b13e (B.es.length) d13e, .slice b13k (B.ks.length) d13k, .slice b13s (B.ss.length) d13s] 26)) (.slice b13e (B.es.length) d13e) (.slice b13k (B.ks.length) d13k) (.slice b13s (B.ss.length) d13s) B) := p13.below (belAlloc _ (belAlloc _ (Below.refl _ _)))
            clear q12P0 q12P1 q12P2 q12P3 q12Pl q12P20 q12P21 q12P22 q12P23 q12P2l
            have B18 : Hid (Below w.heap.size w ((v13.alloc (.cells #[.bool A.leaf, .slice a13e (A.es.length) c13e, .slice a13k (A.ks.length) c13k, .slice a13s (A.ss.length) c13s] 26)).alloc (.cells #[.bool B.leaf, .slice b13e (B.es.length) d13e, .slice b13k (B.ks.length) d13k, .slice b13s (B.ss.length) d13s] 26))) := BW.out.trans (g13.mono BW.out.size)
            have F18P : Aside (Cl ((v13.alloc (.cells #[.bool A.leaf, .slice a13e (A.es.length) c13e, .slice a13k (A.ks.length) c13k, .slice a13s (A.ss.length) c13s] 26)).alloc (.cells #[.bool B.leaf, .slice b13e (B.es.length) d13e, .slice b13k (B.ks.length) d13k, .slice b13s (B.ss.length) d13s] 26)) p #[.bool lf, .slice ae es.length ce, .slice ak ks.length ck, .slice az ss.length cz] 26) := Cl.on GWP.out g13
            clear GWP
            have F18P2 : Aside (Cl ((v13.alloc (.cells #[.bool A.leaf, .slice a13e (A.es.length) c13e, .slice a13k (A.ks.length) c13k, .slice a13s (A.ss.length) c13s] 26)).alloc (.cells #[.bool B.leaf, .slice b13e (B.es.length) d13e, .slice b13k (B.ks.length) d13k, .slice b13s (B.ss.length) d13s] 26)) p2 #[.bool lg, .slice be fs.length de, .slice bk ls.length dk, .slice bz ts.length dz] 26) := Cl.on GWP2.out g13
            clear GWP2
            have F18N : Aside (NdR ((v13.alloc (.cells #[.bool A.leaf, .slice a13e (A.es.length) c13e, .slice a13k (A.ks.length) c13k, .slice a13s (A.ss.length) c13s] 26)).alloc (.cells #[.bool B.leaf, .slice b13e (B.es.length) d13e, .slice b13k (B.ks.length) d13k, .slice b13s (B.ss.length) d13s] 26)) (.slice ae es.length ce) (.slice ak ks.length ck) (.slice az ss.length cz) ⟨lf, es, ks, ss⟩) := GWN.out.below g13
            clear GWN
            have F18M : Aside (NdR ((v13.alloc (.cells #[.bool A.leaf, .slice a13e (A.es.length) c13e, .slice a13k (A.ks.length) c13k, .slice a13s (A.ss.length) c13s] 26)).alloc (.cells #[.bool B.leaf, .slice b13e (B.es.length) d13e, .slice b13k (B.ks.length) d13k, .slice b13s (B.ss.length) d13s] 26)) (.slice be fs.length de) (.slice bk ls.length dk) (.slice bz ts.length dz) ⟨lg, fs, ls, ts⟩) := GWM.out.below g13
            clear GWM
            have F18KW : Aside (Cl ((v13.alloc (.cells #[.bool A.leaf, .slice a13e (A.es.length) c13e, .slice a13k (A.ks.length) c13k, .slice a13s (A.ss.length) c13s] 26)).alloc (.cells #[.bool B.leaf, .slice b13e (B.es.length) d13e, .slice b13k (B.ks.length) d13k, .slice b13s (B.ss.length) d13s] 26)) QW #[.bool lf, .slice wae es.length wce, .slice wak ks.length wck, .slice was wl.length wcs] 30) := Cl.on KW.out g13
            clear KW
            have F18RW : Aside (NdR ((v13.alloc (.cells #[.bool A.leaf, .slice a13e (A.es.length) c13e, .slice a13k (A.ks.length) c13k, .slice a13s (A.ss.length) c13s] 26)).alloc (.cells #[.bool B.leaf, .slice b13e (B.es.length) d13e, .slice b13k (B.ks.length) d13k, .slice b13s (B.ss.length) d13s] 26)) (.slice wae es.length wce) (.slice wak ks.length wck) (.slice was wl.length wcs) ⟨lf, es, ks, wl⟩) := RW.out.below g13
            clear RW
            clear BW
            clear g13 h13 o13 p13
            go_upto_region 10 with fail
            generalize ((v13.alloc (.cells #[.bool A.leaf, .slice a13e (A.es.length) c13e, .slice a13k (A.ks.length) c13k, .slice a13s (A.ss.length) c13s] 26)).alloc (.cells #[.bool B.leaf, .slice b13e (B.es.length) d13e, .slice b13k (B.ks.length) d13k, .slice b13s (B.ss.length) d13s] 26)) = u13 at *
            generalize v13.heap.size + 1 = QB at *
            generalize v13.heap.size = QA at *
            generalize uw.heap.size = ZA at *
            have SP : Aside (Cl u13 p #[.bool lf, .slice ae es.length ce, .slice ak ks.length ck, .slice az ss.length cz] 26) := F18P.out
            have SN : Aside (NdR u13 (.slice ae es.length ce) (.slice ak ks.length ck) (.slice az ss.length cz) ⟨lf, es, ks, ss⟩) := F18N.out
            have SKW : Aside (Cl u13 QW #[.bool lf, .slice wae es.length wce, .slice wak ks.length wck, .slice was wl.length wcs] 30) := F18KW.out
            have SRW : Aside (NdR u13 (.slice wae es.length wce) (.slice wak ks.length wck) (.slice was wl.length wcs) ⟨lf, es, ks, wl⟩) := F18RW.out
            have SKA : Aside (Cl u13 QA #[.bool A.leaf, .slice a13e (A.es.length) c13e, .slice a13k (A.ks.length) c13k, .slice a13s (A.ss.length) c13s] 26) := F14KA.out
            have SKB : Aside (Cl u13 (QB) #[.bool B.leaf, .slice b13e (B.es.length) d13e, .slice b13k (B.ks.length) d13k, .slice b13s (B.ss.length) d13s] 26) := F15KB.out
            have SOA : Aside (NdO ZA u13 (.slice a13e (A.es.length) c13e) (.slice a13k (A.ks.length) c13k) (.slice a13s (A.ss.length) c13s) A) := F16OA.out
            have SOB : Aside (NdO ZA u13 (.slice b13e (B.es.length) d13e) (.slice b13k (B.ks.length) d13k) (.slice b13s (B.ss.length) d13s) B) := F17OB.out
            have SB : Hid (Below w.heap.size w u13) := B18.out
            obtain ⟨zj, hzj⟩ : ∃ z, u13.heap.size = z := ⟨_, rfl⟩
            have HZj : Sz u13 zj := hzj
            have F19BJ : Aside (Below zj u13 u13) := Below.refl _ _
            have F20LE : Aside (zj ≤ u13.heap.size) := Nat.le_of_eq hzj.symm
            have F21L0 : Aside (zj ≤ u13.heap.size) := Nat.le_of_eq hzj.symm
            clear hzj
            obtain ⟨jn, hjn⟩ : ∃ x, joN ⟨lf, es, ks, ss⟩ key ⟨lg, fs, ls, ts⟩ = x := ⟨_, rfl⟩
            have HJ : Hid _ := hjn
            clear hjn
            obtain ⟨sn, hsn⟩ : ∃ x, swN ⟨lf, es, ks, ss⟩ 0 1 [7, 8] [⟨#[113]⟩] = x := ⟨_, rfl⟩
            have HS : Hid _ := hsn
            clear hsn
            have jl1 : jn.es.length ≤ 200 := by rw [← HJ.out]; unfold joN; split <;> simp <;> omega
            have jl2 : jn.ks.length ≤ 200 := by rw [← HJ.out]; unfold joN; split <;> simp <;> omega
            have sl2 : sn.ks.length ≤ 200 := by
              rw [← HS.out]
              unfold swN rpL
              split <;> simp <;> omega
            obtain ⟨q21P0, q21P1, q21P2, q21P3⟩ := F18P.out.four
            have q21Pl := F18P.out.lt
            obtain ⟨q21P20, q21P21, q21P22, q21P23⟩ := F18P2.out.four
            have q21P2l := F18P2.out.lt
            have C22 : Hid _ := njoin_any key ⟨lf, es, ks, ss⟩ ⟨lg, fs, ls, ts⟩ _ _ _ _ _ _ u13 F18N.out F18M.out sm.l sm2.l
            rw [HJ.out] at C22
            go_wp2_with fail
            refine Calls.mono C22.out ?_
            rintro e v22 ⟨x22e, x22k, x22s, rfl, o22, h22⟩
            clear C22
            obtain ⟨a22e, c22e, rfl⟩ := ownShape (n := jn.es.length) o22.e
            obtain ⟨a22k, c22k, rfl⟩ := ownShape (n := jn.ks.length) o22.k
            obtain ⟨a22s, c22s, rfl⟩ := ownShape (n := jn.ss.length) o22.s
            have g22 := (belAlloc _ (belCall h22 (Below.refl _ _)) : Below u13.heap.size u13 (v22.alloc (.cells #[.bool jn.leaf, .slice a22e (jn.es.length) c22e, .slice a22k (jn.ks.length) c22k, .slice a22s (jn.ss.length) c22s] 26)))
            have F23KJ : Aside (Cl (v22.alloc (.cells #[.bool jn.leaf, .slice a22e (jn.es.length) c22e, .slice a22k (jn.ks.length) c22k, .slice a22s (jn.ss.length) c22s] 26)) v22.heap.size #[.bool jn.leaf, .slice a22e (jn.es.length) c22e, .slice a22k (jn.ks.length) c22k, .slice a22s (jn.ss.length) c22s] 26) := Cl.new _ _ _
            have F24OJ : Aside (NdO u13.heap.size (v22.alloc (.cells #[.bool jn.leaf, .slice a22e (jn.es.length) c22e, .slice a22k (jn.ks.length) c22k, .slice a22s (jn.ss.length) c22s] 26)) (.slice a22e (jn.es.length) c22e) (.slice a22k (jn.ks.length) c22k) (.slice a22s (jn.ss.length) c22s) jn) := (o22.below (belAlloc _ (Below.refl _ _))).mono (Nat.le_refl _)
            clear q21P0 q21P1 q21P2 q21P3 q21Pl q21P20 q21P21 q21P22 q21P23 q21P2l
            have B25 : Hid (Below w.heap.size w (v22.alloc (.cells #[.bool jn.leaf, .slice a22e (jn.es.length) c22e, .slice a22k (jn.ks.length) c22k, .slice a22s (jn.ss.length) c22s] 26))) := B18.out.trans (g22.mono B18.out.size)
            have F25P : Aside (Cl (v22.alloc (.cells #[.bool jn.leaf, .slice a22e (jn.es.length) c22e, .slice a22k (jn.ks.length) c22k, .slice a22s (jn.ss.length) c22s] 26)) p #[.bool lf, .slice ae es.length ce, .slice ak ks.length ck, .slice az ss.length cz] 26) := Cl.on F18P.out g22
            clear F18P
            have F25P2 : Aside (Cl (v22.alloc (.cells #[.bool jn.leaf, .slice a22e (jn.es.length) c22e, .slice a22k (jn.ks.length) c22k, .slice a22s (jn.ss.length) c22s] 26)) p2 #[.bool lg, .slice be fs.length de, .slice bk ls.length dk, .slice bz ts.length dz] 26) := Cl.on F18P2.out g22
            clear F18P2
            have F25N : Aside (NdR (v22.alloc (.cells #[.bool jn.leaf, .slice a22e (jn.es.length) c22e, .slice a22k (jn.ks.length) c22k, .slice a22s (jn.ss.length) c22s] 26)) (.slice ae es.length ce) (.slice ak ks.length ck) (.slice az ss.length cz) ⟨lf, es, ks, ss⟩) := F18N.out.below g22
            clear F18N
            have F25M : Aside (NdR (v22.alloc (.cells #[.bool jn.leaf, .slice a22e (jn.es.length) c22e, .slice a22k (jn.ks.length) c22k, .slice a22s (jn.ss.length) c22s] 26)) (.slice be fs.length de) (.slice bk ls.length dk) (.slice bz ts.length dz) ⟨lg, fs, ls, ts⟩) := F18M.out.below g22
            clear F18M
            have F25BJ : Aside (Below zj u13 (v22.alloc (.cells #[.bool jn.leaf, .slice a22e (jn.es.length) c22e, .slice a22k (jn.ks.length) c22k, .slice a22s (jn.ss.length) c22s] 26))) := F19BJ.out.trans (g22.mono F20LE.out)
            clear F19BJ
            have F25LE : Aside (zj ≤ (v22.alloc (.cells #[.bool jn.leaf, .slice a22e (jn.es.length) c22e, .slice a22k (jn.ks.length) c22k, .slice a22s (jn.ss.length) c22s] 26)).heap.size) := Nat.le_trans F20LE.out g22.size
            clear F20LE
            have F25L0 : Aside (zj ≤ u13.heap.size) := F21L0.out
            clear F21L0
            clear B18
            clear g22 h22 o22
            go_upto_region 11 with fail
            generalize (v22.alloc (.cells #[.bool jn.leaf, .slice a22e (jn.es.length) c22e, .slice a22k (jn.ks.length) c22k, .slice a22s (jn.ss.length) c22s] 26)) = u22 at *
            generalize v22.heap.size = QJ at *
            generalize u13.heap.size = ZJ at *
            have F26LZ : Aside (zj ≤ u22.heap.size) := F25LE.out
            obtain ⟨q26P0, q26P1, q26P2, q26P3⟩ := F25P.out.four
            have q26Pl := F25P.out.lt
            have C27 : Hid _ := nswap_any ⟨lf, es, ks, ss⟩ 0 1 [7, 8] [⟨#[113]⟩] _ _ _ (.slice (some ⟨u22.heap.size, 0, none⟩) 2 2) (.slice (some ⟨u22.heap.size + 1, 0, none⟩) 1 1) ((u22.alloc (.cells #[.int .i64 7, .int .i64 8] 3)).alloc (.cells #[.string ⟨#[113]⟩] 9)) (F25N.out.below (belAlloc _ (belAlloc _ (Below.refl _ _)))) sm.l ((Cl.new0 _ _ _).alloc _).rowI2 (Cl.new1 _ _ _ _).rowS (by decide) (by decide)
            rw [HS.out] at C27
            go_wp2_with fail
            refine Calls.mono C27.out ?_
            rintro e v27 ⟨x27e, x27k, x27s, rfl, o27, h27⟩
            clear C27
            obtain ⟨a27e, c27e, rfl⟩ := ownShape (n := sn.es.length) o27.e
            obtain ⟨a27k, c27k, rfl⟩ := ownShape (n := sn.ks.length) o27.k
            obtain ⟨a27s, c27s, rfl⟩ := ownShape (n := sn.ss.length) o27.s
            have g27 := (belAlloc _ (belCall h27 (belAlloc _ (belAlloc _ (Below.refl _ _)))) : Below u22.heap.size u22 (v27.alloc (.cells #[.bool sn.leaf, .slice a27e (sn.es.length) c27e, .slice a27k (sn.ks.length) c27k, .slice a27s (sn.ss.length) c27s] 26)))
            have F28KS : Aside (Cl (v27.alloc (.cells #[.bool sn.leaf, .slice a27e (sn.es.length) c27e, .slice a27k (sn.ks.length) c27k, .slice a27s (sn.ss.length) c27s] 26)) v27.heap.size #[.bool sn.leaf, .slice a27e (sn.es.length) c27e, .slice a27k (sn.ks.length) c27k, .slice a27s (sn.ss.length) c27s] 26) := Cl.new _ _ _
            have F29OS : Aside (NdO u22.heap.size (v27.alloc (.cells #[.bool sn.leaf, .slice a27e (sn.es.length) c27e, .slice a27k (sn.ks.length) c27k, .slice a27s (sn.ss.length) c27s] 26)) (.slice a27e (sn.es.length) c27e) (.slice a27k (sn.ks.length) c27k) (.slice a27s (sn.ss.length) c27s) sn) := (o27.below (belAlloc _ (Below.refl _ _))).mono (by simp; omega)
            clear q26P0 q26P1 q26P2 q26P3 q26Pl
            have B30 : Hid (Below w.heap.size w (v27.alloc (.cells #[.bool sn.leaf, .slice a27e (sn.es.length) c27e, .slice a27k (sn.ks.length) c27k, .slice a27s (sn.ss.length) c27s] 26))) := B25.out.trans (g27.mono B25.out.size)
            have F30P : Aside (Cl (v27.alloc (.cells #[.bool sn.leaf, .slice a27e (sn.es.length) c27e, .slice a27k (sn.ks.length) c27k, .slice a27s (sn.ss.length) c27s] 26)) p #[.bool lf, .slice ae es.length ce, .slice ak ks.length ck, .slice az ss.length cz] 26) := Cl.on F25P.out g27
            clear F25P
            have F30P2 : Aside (Cl (v27.alloc (.cells #[.bool sn.leaf, .slice a27e (sn.es.length) c27e, .slice a27k (sn.ks.length) c27k, .slice a27s (sn.ss.length) c27s] 26)) p2 #[.bool lg, .slice be fs.length de, .slice bk ls.length dk, .slice bz ts.length dz] 26) := Cl.on F25P2.out g27
            clear F25P2
            have F30N : Aside (NdR (v27.alloc (.cells #[.bool sn.leaf, .slice a27e (sn.es.length) c27e, .slice a27k (sn.ks.length) c27k, .slice a27s (sn.ss.length) c27s] 26)) (.slice ae es.length ce) (.slice ak ks.length ck) (.slice az ss.length cz) ⟨lf, es, ks, ss⟩) := F25N.out.below g27
            clear F25N
            have F30M : Aside (NdR (v27.alloc (.cells #[.bool sn.leaf, .slice a27e (sn.es.length) c27e, .slice a27k (sn.ks.length) c27k, .slice a27s (sn.ss.length) c27s] 26)) (.slice be fs.length de) (.slice bk ls.length dk) (.slice bz ts.length dz) ⟨lg, fs, ls, ts⟩) := F25M.out.below g27
            clear F25M
            have F30BJ : Aside (Below zj u13 (v27.alloc (.cells #[.bool sn.leaf, .slice a27e (sn.es.length) c27e, .slice a27k (sn.ks.length) c27k, .slice a27s (sn.ss.length) c27s] 26))) := F25BJ.out.trans (g27.mono F25LE.out)
            clear F25BJ
            have F30LE : Aside (zj ≤ (v27.alloc (.cells #[.bool sn.leaf, .slice a27e (sn.es.length) c27e, .slice a27k (sn.ks.length) c27k, .slice a27s (sn.ss.length) c27s] 26)).heap.size) := Nat.le_trans F25LE.out g27.size
            clear F25LE
            have F30L0 : Aside (zj ≤ ZJ) := F25L0.out
            clear F25L0
            have F30KJ : Aside (Cl (v27.alloc (.cells #[.bool sn.leaf, .slice a27e (sn.es.length) c27e, .slice a27k (sn.ks.length) c27k, .slice a27s (sn.ss.length) c27s] 26)) QJ #[.bool jn.leaf, .slice a22e (jn.es.length) c22e, .slice a22k (jn.ks.length) c22k, .slice a22s (jn.ss.length) c22s] 26) := Cl.on F23KJ.out g27
            clear F23KJ
            have F30OJ : Aside (NdO ZJ (v27.alloc (.cells #[.bool sn.leaf, .slice a27e (sn.es.length) c27e, .slice a27k (sn.ks.length) c27k, .slice a27s (sn.ss.length) c27s] 26)) (.slice a22e (jn.es.length) c22e) (.slice a22k (jn.ks.length) c22k) (.slice a22s (jn.ss.length) c22s) jn) := F24OJ.out.below g27
            clear F24OJ
            have F30LZ : Aside (zj ≤ u22.heap.size) := F26LZ.out
            clear F26LZ
            clear B25
            clear g27 h27 o27
            go_upto_region 12 with fail
            generalize (v27.alloc (.cells #[.bool sn.leaf, .slice a27e (sn.es.length) c27e, .slice a27k (sn.ks.length) c27k, .slice a27s (sn.ss.length) c27s] 26)) = u27 at *
            generalize v27.heap.size = QS at *
            generalize u22.heap.size = ZS at *
            have KI : Aside (KpI zj u13 QJ QS #[.bool jn.leaf, .slice a22e (jn.es.length) c22e, .slice a22k (jn.ks.length) c22k, .slice a22s (jn.ss.length) c22s] #[.bool sn.leaf, .slice a27e (sn.es.length) c27e, .slice a27k (sn.ks.length) c27k, .slice a27s (sn.ss.length) c27s] (.slice a22e (jn.es.length) c22e) (.slice a22k (jn.ks.length) c22k) (.slice a27k (sn.ks.length) c27k) jn.es.length jn.ks.length sn.ks.length u27) := ⟨F30BJ.out, F30KJ.out, F28KS.out, (padOf F30OJ.out.e).mono F30L0.out, (padOf F30OJ.out.k).mono F30L0.out, (padOf F29OS.out.k).mono F30LZ.out⟩
            clear F30P
            clear F30P2
            clear F30N
            clear F30M
            clear F30BJ
            clear F30LE
            clear F30L0
            clear F30KJ
            clear F30OJ
            clear F30LZ
            clear F28KS
            clear F29OS
            clear B30 HJ HS
            go_wp2
            go_loopg [16] jn.es.length (fun kx s16 wr => ∃ (i : Nat), s16 = .int .i64 i ∧ i ≤ jn.es.length ∧ jn.es.length - i ≤ kx ∧ Aside (KpI zj u13 QJ QS #[.bool jn.leaf, .slice a22e (jn.es.length) c22e, .slice a22k (jn.ks.length) c22k, .slice a22s (jn.ss.length) c22s] #[.bool sn.leaf, .slice a27e (sn.es.length) c27e, .slice a27k (sn.ks.length) c27k, .slice a27s (sn.ss.length) c27s] (.slice a22e (jn.es.length) c22e) (.slice a22k (jn.ks.length) c22k) (.slice a27k (sn.ks.length) c27k) jn.es.length jn.ks.length sn.ks.length wr))
            case atStart => exact ⟨0, rfl, Nat.zero_le _, Nat.le_refl _, KI⟩
            case round =>
              clear KI
              obtain ⟨i, rfl, hi, hki, KR⟩ := hrel
              obtain ⟨c0, c1, c2, c3⟩ := KR.out.j.four
              by_cases hil : i < jn.es.length
              ·
                have hilz : (i : Int) < (jn.es.length : Int) := by omega
                obtain ⟨b, cb, eb, hb, kb, kc⟩ := KR.out.pe.at i hil
                obtain ⟨⟨x0, k0⟩, g0⟩ := kc 0 (by decide)
                obtain ⟨⟨x1, k1⟩, g1⟩ := kc 1 (by decide)
                simp only [Nat.add_zero] at k0 g0
                subst eb
                have K2 : Aside (KpI zj u13 QJ QS #[.bool jn.leaf, .slice (some ⟨b, 0, none⟩) (jn.es.length) c22e, .slice a22k (jn.ks.length) c22k, .slice a22s (jn.ss.length) c22s] #[.bool sn.leaf, .slice a27e (sn.es.length) c27e, .slice a27k (sn.ks.length) c27k, .slice a27s (sn.ss.length) c27s] (.slice (some ⟨b, 0, none⟩) (jn.es.length) c22e) (.slice a22k (jn.ks.length) c22k) (.slice a27k (sn.ks.length) c27k) jn.es.length jn.ks.length sn.ks.length ((wr.setCell ⟨b, i * 2, none⟩ (.string ⟨#[122]⟩)).setCell ⟨b, i * 2 + 1, none⟩ (.string ⟨#[]⟩))) := KR.out.set2 (i * 2) (i * 2 + 1) hb kb (by decide) _ _
                clear kc kb KR
                go_wp2
                go_roundg (jn.es.length - (i + 1))
                case measure => omega
                case rel => exact ⟨i + 1, by go_num, by omega, Nat.le_refl _, K2⟩
              ·
                have hilz : ¬ (i : Int) < (jn.es.length : Int) := by omega
                obtain rfl : i = jn.es.length := by omega
                go_upto_region 16 with fail
                clear c0 c1 c2 c3
                generalize wr = v1w at *
                have Kv1w := KR
                clear KR
                go_wp2
                go_loopg [17] jn.ks.length (fun kx s17 wr => ∃ (i : Nat), s17 = .int .i64 i ∧ i ≤ jn.ks.length ∧ jn.ks.length - i ≤ kx ∧ Aside (KpI zj u13 QJ QS #[.bool jn.leaf, .slice a22e (jn.es.length) c22e, .slice a22k (jn.ks.length) c22k, .slice a22s (jn.ss.length) c22s] #[.bool sn.leaf, .slice a27e (sn.es.length) c27e, .slice a27k (sn.ks.length) c27k, .slice a27s (sn.ss.length) c27s] (.slice a22e (jn.es.length) c22e) (.slice a22k (jn.ks.length) c22k) (.slice a27k (sn.ks.length) c27k) jn.es.length jn.ks.length sn.ks.length wr))
                case atStart => exact ⟨0, rfl, Nat.zero_le _, Nat.le_refl _, Kv1w⟩
                case round =>
                  clear Kv1w
                  obtain ⟨i, rfl, hi, hki, KR⟩ := hrel
                  obtain ⟨c0, c1, c2, c3⟩ := KR.out.j.four
                  by_cases hil : i < jn.ks.length
                  ·
                    have hilz : (i : Int) < (jn.ks.length : Int) := by omega
                    obtain ⟨b, cb, eb, hb, kb, kc⟩ := KR.out.pk.at i hil
                    obtain ⟨⟨x0, k0⟩, g0⟩ := kc 0 (by decide)
                    simp only [Nat.add_zero, Nat.mul_one] at k0 g0
                    subst eb
                    have K2 : Aside (KpI zj u13 QJ QS #[.bool jn.leaf, .slice a22e (jn.es.length) c22e, .slice (some ⟨b, 0, none⟩) (jn.ks.length) c22k, .slice a22s (jn.ss.length) c22s] #[.bool sn.leaf, .slice a27e (sn.es.length) c27e, .slice a27k (sn.ks.length) c27k, .slice a27s (sn.ss.length) c27s] (.slice a22e (jn.es.length) c22e) (.slice (some ⟨b, 0, none⟩) (jn.ks.length) c22k) (.slice a27k (sn.ks.length) c27k) jn.es.length jn.ks.length sn.ks.length (wr.setCell ⟨b, i, none⟩ (.int .i64 1))) := KR.out.set i hb kb (by decide) _
                    clear kc kb KR
                    go_wp2
                    go_roundg (jn.ks.length - (i + 1))
                    case measure => omega
                    case rel => exact ⟨i + 1, by go_num, by omega, Nat.le_refl _, K2⟩
                  ·
                    have hilz : ¬ (i : Int) < (jn.ks.length : Int) := by omega
                    obtain rfl : i = jn.ks.length := by omega
                    go_upto_region 20 with fail
                    clear c0 c1 c2 c3
                    generalize wr = v2w at *
                    have Kv2w := KR
                    clear KR
                    have cP := (clTo SP.out Kv2w.out.b (by have := SP.out.lt; have := HZj; unfold Sz at this; omega)).four.1
                    cases lf with
                    | true =>
                      have Vv2wP : Aside (Cl v2w p #[.bool true, .slice ae es.length ce, .slice ak ks.length ck, .slice az ss.length cz] 26) := clTo SP.out Kv2w.out.b (by have := SP.out.lt; have := HZj; unfold Sz at this; omega)
                      have Vv2wN : Aside (NdR v2w (.slice ae es.length ce) (.slice ak ks.length ck) (.slice az ss.length cz) ⟨true, es, ks, ss⟩) := SN.out.to Kv2w.out.b (Nat.le_of_eq HZj)
                      have Vv2wKW : Aside (Cl v2w QW #[.bool true, .slice wae es.length wce, .slice wak ks.length wck, .slice was wl.length wcs] 30) := clTo SKW.out Kv2w.out.b (by have := SKW.out.lt; have := HZj; unfold Sz at this; omega)
                      have Vv2wRW : Aside (NdR v2w (.slice wae es.length wce) (.slice wak ks.length wck) (.slice was wl.length wcs) ⟨true, es, ks, wl⟩) := SRW.out.to Kv2w.out.b (Nat.le_of_eq HZj)
                      have Vv2wKA : Aside (Cl v2w QA #[.bool A.leaf, .slice a13e (A.es.length) c13e, .slice a13k (A.ks.length) c13k, .slice a13s (A.ss.length) c13s] 26) := clTo SKA.out Kv2w.out.b (by have := SKA.out.lt; have := HZj; unfold Sz at this; omega)
                      have Vv2wKB : Aside (Cl v2w (QB) #[.bool B.leaf, .slice b13e (B.es.length) d13e, .slice b13k (B.ks.length) d13k, .slice b13s (B.ss.length) d13s] 26) := clTo SKB.out Kv2w.out.b (by have := SKB.out.lt; have := HZj; unfold Sz at this; omega)
                      have Vv2wOA : Aside (NdO ZA v2w (.slice a13e (A.es.length) c13e) (.slice a13k (A.ks.length) c13k) (.slice a13s (A.ss.length) c13s) A) := SOA.out.below (Kv2w.out.b.mono (Nat.le_of_eq HZj))
                      have Vv2wOB : Aside (NdO ZA v2w (.slice b13e (B.es.length) d13e) (.slice b13k (B.ks.length) d13k) (.slice b13s (B.ss.length) d13s) B) := SOB.out.below (Kv2w.out.b.mono (Nat.le_of_eq HZj))
                      have BT : Hid (Below w.heap.size w v2w) := SB.out.trans (Kv2w.out.b.mono (by have := SB.out.size; have := HZj; unfold Sz at this; omega))
                      clear SP SN SKW SRW SKA SKB SOA SOB SB Kv2w
                      go_upto_region 25 with fail
                      refine region_inv 7 (JNow v2w p true (.agg #[.bool true, .slice ae es.length ce, .slice ak ks.length ck, .slice az ss.length cz]) es ks wl _ _ _ _ _ _ _ _ _ _ _ _ _ _ _ _ _ _ _ _ _ _ _ _ _ _ _ _ _ _ _ _ _ _ _ _ _ _ _ _ _ _ _ _ _ _ _ _ _ _ _ _ _ _ _ _ _ _ _ _ _ _ _ _ _ _ _ _ _ _ _ _ _ _ _ _ _ _ _ _ _ _ _ _ _ _ _ _ _ _ _ _ _ _ _ _ _ _ _ _ _ _ _ _ _ _ _ _ _ _ _ _ _ _ _ _ _ _ _ _ _ _ _ _ _ _ _ _ _ _ _ _ _ _ _ _ _ _ _ _ _ _ _ _ _ _ _ _ _ _ _ _ _ _ _ _ _ _ _ _ _ _ _ _ _ _ _ _ _ _ _ _ _ _ _ _ _ _ _ _ _ _ _ _ _ _ _ _ _ _ _ _ _ _ _ _ _ _ _ _ _ _ _ _ _) (by kernel_rfl) (by kernel_rfl) (by kernel_rfl) ⟨false, false, false, false, false, false, false, false, rfl, rfl, _, _, _, _, _, _, _, rfl, (Below.refl _ v2w).drew, (fun h => by cases h), (fun h => by cases h), (fun h => by cases h), (fun h => by cases h), (fun h => by cases h), (fun h => by cases h), (fun h => by cases h)⟩ ?_ ?_ ?_
                      · intro i f a w' hne hl hJ
                        refine JNow.elim hJ (C := fun f a w' => i ∈ Region.ready .any _ f.toArray → wpOp _ _ _ i (fun a' w'' => JNow v2w p true (.agg #[.bool true, .slice ae es.length ce, .slice ak ks.length ck, .slice az ss.length cz]) es ks wl _ _ _ _ _ _ _ _ _ _ _ _ _ _ _ _ _ _ _ _ _ _ _ _ _ _ _ _ _ _ _ _ _ _ _ _ _ _ _ _ _ _ _ _ _ _ _ _ _ _ _ _ _ _ _ _ _ _ _ _ _ _ _ _ _ _ _ _ _ _ _ _ _ _ _ _ _ _ _ _ _ _ _ _ _ _ _ _ _ _ _ _ _ _ _ _ _ _ _ _ _ _ _ _ _ _ _ _ _ _ _ _ _ _ _ _ _ _ _ _ _ _ _ _ _ _ _ _ _ _ _ _ _ _ _ _ _ _ _ _ _ _ _ _ _ _ _ _ _ _ _ _ _ _ _ _ _ _ _ _ _ _ _ _ _ _ _ _ _ _ _ _ _ _ _ _ _ _ _ _ _ _ _ _ _ _ _ _ _ _ _ _ _ _ _ _ _ _ _ _ _ _ _ _ _ (f.set i true) a' w'') a w') ?_
                        clear hJ hl f a
                        intro f0 f1 f2 f3 f4 f5 f6 f7 x19 x107 x108 x109 x110 x111 x112 e7 hB h0 h1 h2 h3 h4 h5 h6 hi
                        obtain ⟨hlt, hun, _⟩ := ready_mem hi
                        have hlt' : i < 8 := hlt
                        clear hlt
                        rcases (by omega : i = 0 ∨ i = 1 ∨ i = 2 ∨ i = 3 ∨ i = 4 ∨ i = 5 ∨ i = 6) with rfl | rfl | rfl | rfl | rfl | rfl | rfl
                        · have un : f0 = false := hun
                          clear hun
                          clear hi hne hlt'
                          obtain ⟨i0, i1, i2, i3⟩ := (Vv2wP.out.on hB).four
                          refine wpOp_step rfl (fun K hK => ?_)
                          have HK : Shut _ := hK
                          clear hK
                          go_simp
                          refine HK.out _ _ ?_
                          exact ⟨true, f1, f2, f3, f4, f5, f6, f7, rfl, e7, _, _, _, _, _, _, _, rfl, hB, (fun _ => rfl), h1, h2, h3, h4, h5, h6⟩
                        · have un : f1 = false := hun
                          clear hun
                          have d0 : f0 = true := ready_dep 0 hi (by kernel_rfl)
                          have y0 := h0.out d0
                          subst y0
                          clear hi hne hlt'
                          refine wpOp_step rfl (fun K hK => ?_)
                          have HK : Shut _ := hK
                          clear hK
                          go_simp
                          refine Calls.mono (of_any true _ _ _ w' ⟨true, es, ks, ss⟩ (Vv2wN.out.below hB)) ?_
                          rintro e w1 ⟨rfl, b1⟩
                          refine HK.out _ _ ?_
                          exact ⟨f0, true, f2, f3, f4, f5, f6, f7, rfl, e7, _, _, _, _, _, _, _, rfl, belCall b1 hB, h0, (fun _ => rfl), h2, h3, h4, (fun d => let ⟨a1, c1, a2, c2, a3, c3, e, o⟩ := h5.out d; ⟨a1, c1, a2, c2, a3, c3, e, o.below (b1)⟩), (fun d => let ⟨q, e, l, c⟩ := h6.out d; ⟨q, e, l, Cl.on c (b1)⟩)⟩
                        · have un : f2 = false := hun
                          clear hun
                          clear hi hne hlt'
                          refine wpOp_step rfl (fun K hK => ?_)
                          have HK : Shut _ := hK
                          clear hK
                          go_simp
                          refine HK.out _ _ ?_
                          exact ⟨f0, f1, true, f3, f4, f5, f6, f7, rfl, e7, _, _, _, _, _, _, _, rfl, hB, h0, h1, (fun _ => rfl), h3, h4, h5, h6⟩
                        · have un : f3 = false := hun
                          clear hun
                          have d2 : f2 = true := ready_dep 2 hi (by kernel_rfl)
                          have y2 := h2.out d2
                          subst y2
                          clear hi hne hlt'
                          obtain ⟨i0, i1, i2, i3⟩ := (Vv2wP.out.on hB).four
                          refine wpOp_step rfl (fun K hK => ?_)
                          have HK : Shut _ := hK
                          clear hK
                          go_simp
                          refine HK.out _ _ ?_
                          exact ⟨f0, f1, f2, true, f4, f5, f6, f7, rfl, e7, _, _, _, _, _, _, _, rfl, hB, h0, h1, h2, (fun _ => rfl), h4, h5, h6⟩
                        · have un : f4 = false := hun
                          clear hun
                          have d3 : f3 = true := ready_dep 3 hi (by kernel_rfl)
                          have y3 := h3.out d3
                          subst y3
                          clear hi hne hlt'
                          refine wpOp_step rfl (fun K hK => ?_)
                          have HK : Shut _ := hK
                          clear hK
                          go_simp
                          refine HK.out _ _ ?_
                          exact ⟨f0, f1, f2, f3, true, f5, f6, f7, rfl, e7, _, _, _, _, _, _, _, rfl, hB, h0, h1, h2, h3, (fun _ => rfl), h5, h6⟩
                        · have un : f5 = false := hun
                          clear hun
                          have d1 : f1 = true := ready_dep 1 hi (by kernel_rfl)
                          have y1 := h1.out d1
                          subst y1
                          have d4 : f4 = true := ready_dep 4 hi (by kernel_rfl)
                          have y4 := h4.out d4
                          subst y4
                          clear hi hne hlt'
                          refine wpOp_step rfl (fun K hK => ?_)
                          have HK : Shut _ := hK
                          clear hK
                          go_simp
                          refine Calls.mono (by
                                  have hh := rnjoin_same ⟨#[120]⟩ ⟨true, es, ks, ss⟩ ⟨true, [], [], []⟩ _ _ _ _ _ _ w' (Vv2wN.out.below hB) (ndr_nil w' true) sm.l ⟨by simp, by simp, by simp⟩ rfl
                                  rw [JW.out] at hh
                                  exact hh) ?_
                          rintro e w1 ⟨x1, x2, x3, rfl, ow, b1⟩
                          obtain ⟨a1, c1, rfl⟩ := ownShape (n := es.length) ow.e
                          obtain ⟨a2, c2, rfl⟩ := ownShape (n := ks.length) ow.k
                          obtain ⟨a3, c3, rfl⟩ := ownShape (n := wl.length) ow.s
                          refine HK.out _ _ ?_
                          exact ⟨f0, f1, f2, f3, f4, true, f6, f7, rfl, e7, _, _, _, _, _, _, _, rfl, belCall b1 hB, h0, h1, h2, h3, h4, (fun _ => ⟨a1, c1, a2, c2, a3, c3, rfl, ow.mono hB.size⟩), (fun d => let ⟨q, e, l, c⟩ := h6.out d; ⟨q, e, l, Cl.on c (b1)⟩)⟩
                        · have un : f6 = false := hun
                          clear hun
                          clear hi hne hlt'
                          refine wpOp_step rfl (fun K hK => ?_)
                          have HK : Shut _ := hK
                          clear hK
                          go_simp
                          refine HK.out _ _ ?_
                          exact ⟨f0, f1, f2, f3, f4, f5, true, f7, rfl, e7, _, _, _, _, _, _, _, rfl, belAlloc _ hB, h0, h1, h2, h3, h4, (fun d => let ⟨a1, c1, a2, c2, a3, c3, e, o⟩ := h5.out d; ⟨a1, c1, a2, c2, a3, c3, e, o.below (belAlloc _ (Below.refl _ _))⟩), (fun _ => ⟨_, rfl, hB.size, Cl.new _ _ _⟩)⟩
                      · intro f a w' hl hJ
                        refine JNow.elim hJ (C := fun f a w' => 7 ∈ Region.ready .any _ f.toArray → wpOp _ _ _ 7 _ a w') ?_
                        clear hJ hl f a
                        intro f0 f1 f2 f3 f4 f5 f6 f7 x19 x107 x108 x109 x110 x111 x112 e7 hB h0 h1 h2 h3 h4 h5 h6 hi
                        have d5 : f5 = true := ready_dep 5 hi (by kernel_rfl)
                        obtain ⟨a5e, c5e, a5k, c5k, a5s, c5s, y5, o5⟩ := h5.out d5
                        subst y5
                        have d6 : f6 = true := ready_dep 6 hi (by kernel_rfl)
                        obtain ⟨q6, y6, l6, c6⟩ := h6.out d6
                        subst y6
                        clear hi
                        obtain ⟨y0, y1, y2, y3⟩ := c6.four
                        obtain ⟨g0, g1, g2, g3⟩ := c6.thaw
                        refine wpOp_step rfl (fun K hK => ?_)
                        have HK : Shut _ := hK
                        clear hK
                        go_simp
                        refine HK.out _ _ ?_
                        have bX : Below v2w.heap.size v2w ((((w'.setCell ⟨q6, 0, none⟩ (.bool true)).setCell ⟨q6, 1, none⟩ (.slice a5e es.length c5e)).setCell ⟨q6, 2, none⟩ (.slice a5k ks.length c5k)).setCell ⟨q6, 3, none⟩ (.slice a5s wl.length c5s)) := belSet4 hB l6
                        have KN : Aside (Cl ((((w'.setCell ⟨q6, 0, none⟩ (.bool true)).setCell ⟨q6, 1, none⟩ (.slice a5e es.length c5e)).setCell ⟨q6, 2, none⟩ (.slice a5k ks.length c5k)).setCell ⟨q6, 3, none⟩ (.slice a5s wl.length c5s)) q6 #[.bool true, .slice a5e es.length c5e, .slice a5k ks.length c5k, .slice a5s wl.length c5s] 30) := c6.set4 _ _ _ _
                        have RN : Aside (NdR ((((w'.setCell ⟨q6, 0, none⟩ (.bool true)).setCell ⟨q6, 1, none⟩ (.slice a5e es.length c5e)).setCell ⟨q6, 2, none⟩ (.slice a5k ks.length c5k)).setCell ⟨q6, 3, none⟩ (.slice a5s wl.length c5s)) (.slice a5e es.length c5e) (.slice a5k ks.length c5k) (.slice a5s wl.length c5s) ⟨true, es, ks, wl⟩) := by
                          have h1 := ownSet4T (a := .bool true) (b := .slice a5e es.length c5e) (c := .slice a5k ks.length c5k) (d := .slice a5s wl.length c5s) o5.e c6 (by decide)
                          have h2 := ownSet4T (a := .bool true) (b := .slice a5e es.length c5e) (c := .slice a5k ks.length c5k) (d := .slice a5s wl.length c5s) o5.k c6 (by decide)
                          have h3 := ownSet4T (a := .bool true) (b := .slice a5e es.length c5e) (c := .slice a5k ks.length c5k) (d := .slice a5s wl.length c5s) o5.s c6 (by decide)
                          exact NdO.r ⟨h1, h2, h3⟩
                        have GNP : Aside (Cl ((((w'.setCell ⟨q6, 0, none⟩ (.bool true)).setCell ⟨q6, 1, none⟩ (.slice a5e es.length c5e)).setCell ⟨q6, 2, none⟩ (.slice a5k ks.length c5k)).setCell ⟨q6, 3, none⟩ (.slice a5s wl.length c5s)) p #[.bool true, .slice ae es.length ce, .slice ak ks.length ck, .slice az ss.length cz] 26) := Cl.on Vv2wP.out bX
                        have GNN : Aside (NdR ((((w'.setCell ⟨q6, 0, none⟩ (.bool true)).setCell ⟨q6, 1, none⟩ (.slice a5e es.length c5e)).setCell ⟨q6, 2, none⟩ (.slice a5k ks.length c5k)).setCell ⟨q6, 3, none⟩ (.slice a5s wl.length c5s)) (.slice ae es.length ce) (.slice ak ks.length ck) (.slice az ss.length cz) ⟨true, es, ks, ss⟩) := Vv2wN.out.below bX
                        have GNKW : Aside (Cl ((((w'.setCell ⟨q6, 0, none⟩ (.bool true)).setCell ⟨q6, 1, none⟩ (.slice a5e es.length c5e)).setCell ⟨q6, 2, none⟩ (.slice a5k ks.length c5k)).setCell ⟨q6, 3, none⟩ (.slice a5s wl.length c5s)) QW #[.bool true, .slice wae es.length wce, .slice wak ks.length wck, .slice was wl.length wcs] 30) := Cl.on Vv2wKW.out bX
                        have GNRW : Aside (NdR ((((w'.setCell ⟨q6, 0, none⟩ (.bool true)).setCell ⟨q6, 1, none⟩ (.slice a5e es.length c5e)).setCell ⟨q6, 2, none⟩ (.slice a5k ks.length c5k)).setCell ⟨q6, 3, none⟩ (.slice a5s wl.length c5s)) (.slice wae es.length wce) (.slice wak ks.length wck) (.slice was wl.length wcs) ⟨true, es, ks, wl⟩) := Vv2wRW.out.below bX
                        have GNKA : Aside (Cl ((((w'.setCell ⟨q6, 0, none⟩ (.bool true)).setCell ⟨q6, 1, none⟩ (.slice a5e es.length c5e)).setCell ⟨q6, 2, none⟩ (.slice a5k ks.length c5k)).setCell ⟨q6, 3, none⟩ (.slice a5s wl.length c5s)) QA #[.bool A.leaf, .slice a13e (A.es.length) c13e, .slice a13k (A.ks.length) c13k, .slice a13s (A.ss.length) c13s] 26) := Cl.on Vv2wKA.out bX
                        have GNKB : Aside (Cl ((((w'.setCell ⟨q6, 0, none⟩ (.bool true)).setCell ⟨q6, 1, none⟩ (.slice a5e es.length c5e)).setCell ⟨q6, 2, none⟩ (.slice a5k ks.length c5k)).setCell ⟨q6, 3, none⟩ (.slice a5s wl.length c5s)) (QB) #[.bool B.leaf, .slice b13e (B.es.length) d13e, .slice b13k (B.ks.length) d13k, .slice b13s (B.ss.length) d13s] 26) := Cl.on Vv2wKB.out bX
                        have GNOA : Aside (NdO ZA ((((w'.setCell ⟨q6, 0, none⟩ (.bool true)).setCell ⟨q6, 1, none⟩ (.slice a5e es.length c5e)).setCell ⟨q6, 2, none⟩ (.slice a5k ks.length c5k)).setCell ⟨q6, 3, none⟩ (.slice a5s wl.length c5s)) (.slice a13e (A.es.length) c13e) (.slice a13k (A.ks.length) c13k) (.slice a13s (A.ss.length) c13s) A) := Vv2wOA.out.below bX
                        have GNOB : Aside (NdO ZA ((((w'.setCell ⟨q6, 0, none⟩ (.bool true)).setCell ⟨q6, 1, none⟩ (.slice a5e es.length c5e)).setCell ⟨q6, 2, none⟩ (.slice a5k ks.length c5k)).setCell ⟨q6, 3, none⟩ (.slice a5s wl.length c5s)) (.slice b13e (B.es.length) d13e) (.slice b13k (B.ks.length) d13k) (.slice b13s (B.ss.length) d13s) B) := Vv2wOB.out.below bX
                        have BN : Hid (Below w.heap.size w ((((w'.setCell ⟨q6, 0, none⟩ (.bool true)).setCell ⟨q6, 1, none⟩ (.slice a5e es.length c5e)).setCell ⟨q6, 2, none⟩ (.slice a5k ks.length c5k)).setCell ⟨q6, 3, none⟩ (.slice a5s wl.length c5s))) := BT.out.trans (bX.mono BT.out.size)
                        clear o5 c6 hB bX y0 y1 y2 y3 g0 g1 g2 g3 h0 h1 h2 h3 h4 h5 h6 Vv2wP Vv2wN Vv2wKW Vv2wRW Vv2wKA Vv2wKB Vv2wOA Vv2wOB BT
                        go_upto_region 26 with fail
                        clear l6
                        generalize ((((w'.setCell ⟨q6, 0, none⟩ (.bool true)).setCell ⟨q6, 1, none⟩ (.slice a5e es.length c5e)).setCell ⟨q6, 2, none⟩ (.slice a5k ks.length c5k)).setCell ⟨q6, 3, none⟩ (.slice a5s wl.length c5s)) = un at *
                        generalize q6 = QN at *
                        obtain ⟨q30KW0, q30KW1, q30KW2, q30KW3⟩ := GNKW.out.four
                        have q30KWl := GNKW.out.lt
                        obtain ⟨q30KN0, q30KN1, q30KN2, q30KN3⟩ := KN.out.four
                        have q30KNl := KN.out.lt
                        have C31 : Hid _ := nsame_any ⟨true, es, ks, wl⟩ _ _ _ _ _ _ un GNRW.out RN.out SW.out
                        go_wp2_with fail
                        refine Calls.mono C31.out ?_
                        rintro e w31 ⟨rfl, hb31⟩
                        clear C31
                        clear q30KW0 q30KW1 q30KW2 q30KW3 q30KWl q30KN0 q30KN1 q30KN2 q30KN3 q30KNl
                        have B32 : Hid (Below w.heap.size w w31) := BN.out.trans (hb31.mono BN.out.size)
                        have F32P : Aside (Cl w31 p #[.bool true, .slice ae es.length ce, .slice ak ks.length ck, .slice az ss.length cz] 26) := Cl.on GNP.out hb31
                        clear GNP
                        have F32N : Aside (NdR w31 (.slice ae es.length ce) (.slice ak ks.length ck) (.slice az ss.length cz) ⟨true, es, ks, ss⟩) := GNN.out.below hb31
                        clear GNN
                        have F32KW : Aside (Cl w31 QW #[.bool true, .slice wae es.length wce, .slice wak ks.length wck, .slice was wl.length wcs] 30) := Cl.on GNKW.out hb31
                        clear GNKW
                        have F32RW : Aside (NdR w31 (.slice wae es.length wce) (.slice wak ks.length wck) (.slice was wl.length wcs) ⟨true, es, ks, wl⟩) := GNRW.out.below hb31
                        clear GNRW
                        have F32KA : Aside (Cl w31 QA #[.bool A.leaf, .slice a13e (A.es.length) c13e, .slice a13k (A.ks.length) c13k, .slice a13s (A.ss.length) c13s] 26) := Cl.on GNKA.out hb31
                        clear GNKA
                        have F32KB : Aside (Cl w31 (QB) #[.bool B.leaf, .slice b13e (B.es.length) d13e, .slice b13k (B.ks.length) d13k, .slice b13s (B.ss.length) d13s] 26) := Cl.on GNKB.out hb31
                        clear GNKB
                        have F32OA : Aside (NdO ZA w31 (.slice a13e (A.es.length) c13e) (.slice a13k (A.ks.length) c13k) (.slice a13s (A.ss.length) c13s) A) := GNOA.out.below hb31
                        clear GNOA
                        have F32OB : Aside (NdO ZA w31 (.slice b13e (B.es.length) d13e) (.slice b13k (B.ks.length) d13k) (.slice b13s (B.ss.length) d13s) B) := GNOB.out.below hb31
                        clear GNOB
                        have F32KN : Aside (Cl w31 QN #[.bool true, .slice a5e es.length c5e, .slice a5k ks.length c5k, .slice a5s wl.length c5s] 30) := Cl.on KN.out hb31
                        clear KN
                        have F32RN : Aside (NdR w31 (.slice a5e es.length c5e) (.slice a5k ks.length c5k) (.slice a5s wl.length c5s) ⟨true, es, ks, wl⟩) := RN.out.below hb31
                        clear RN
                        clear BN
                        clear hb31
                        obtain ⟨q32P0, q32P1, q32P2, q32P3⟩ := F32P.out.four
                        have q32Pl := F32P.out.lt
                        obtain ⟨q32KA0, q32KA1, q32KA2, q32KA3⟩ := F32KA.out.four
                        have q32KAl := F32KA.out.lt
                        obtain ⟨q32KB0, q32KB1, q32KB2, q32KB3⟩ := F32KB.out.four
                        have q32KBl := F32KB.out.lt
                        cases hen : enN ⟨true, es, ks, ss⟩ with
                        | false =>
                          obtain rfl : (⟨#[]⟩ : ByteArray) = mid := by rw [← HMd.out]; unfold sM; rw [hen]; rfl
                          clear hen
                          go_wp2
                          go_ret
                          exact ⟨rfl, B32.out⟩
                        | true =>
                          have hmid : mid ≠ ⟨#[]⟩ := by
                            intro e
                            have := spM_size hen
                            rw [← HMd.out] at e
                            unfold sM at e
                            rw [if_pos hen] at e
                            rw [e] at this
                            exact absurd this (by decide)
                          have hm1 := str_no hmid
                          have hm2 : mid.toList.isEmpty = false := by
                            cases h : mid.toList with
                            | nil => exact absurd (baL_inj (h.trans (by simp))) hmid
                            | cons _ _ => rfl
                          have HK : Hid _ := sp_keys hen rfl key
                          have a1 := HA.out
                          have a2 := HMd.out
                          have a3 := HBn.out
                          unfold sA at a1
                          unfold sM at a2
                          unfold sB at a3
                          rw [if_pos hen] at a1 a2 a3
                          rw [a1, a2, a3] at HK
                          simp only at HK
                          have lA : A.es.length ≤ 60 := by rw [← a1]; unfold spA; simp; omega
                          have lB : B.es.length ≤ 60 := by rw [← a3]; unfold spB; simp; omega
                          clear a1 a2 a3 hen hmid
                          have C33 : Hid _ := rget_any _ es key w31 F32N.out.e (by omega)
                          go_wp2_with fail
                          refine Calls.mono C33.out ?_
                          rintro e w33 ⟨rfl, rfl⟩
                          clear C33
                          have C34 : Hid _ := rget_any _ A.es key w31 F32OA.out.r.e (by omega)
                          go_wp2_with fail
                          refine Calls.mono C34.out ?_
                          rintro e w34 ⟨rfl, rfl⟩
                          clear C34
                          have C35 : Hid _ := rget_any _ B.es key w31 F32OB.out.r.e (by omega)
                          go_wp2_with fail
                          refine Calls.mono C35.out ?_
                          rintro e w35 ⟨rfl, rfl⟩
                          clear C35
                          obtain ⟨k1, k2, k3⟩ := HK.out
                          have K1 : Hid _ := k1
                          have K2 : Hid _ := k2
                          have K3 : Hid _ := k3
                          clear k1 k2 k3 HK
                          cases hfA : fdB A.es key with
                          | false =>
                            cases hfB : fdB B.es key with
                            | false =>
                              have K4 := K1.out
                              rw [hfA, hfB] at K4
                              simp only [Bool.or_false] at K4
                              rw [K4]
                              clear K4 hfA hfB
                              go_wp2
                              go_ret
                              exact ⟨rfl, B32.out⟩
                            | true =>
                              have K4 := K1.out
                              rw [hfA, hfB] at K4
                              simp only [Bool.or_true] at K4
                              rw [K4]
                              have l1 : Op.bytesLess key.toList mid.toList = false := K3.out hfB
                              clear K4 hfA hfB
                              go_wp2
                              go_ret
                              exact ⟨rfl, B32.out⟩
                          | true =>
                            cases hfB : fdB B.es key with
                            | false =>
                              have K4 := K1.out
                              rw [hfA, hfB] at K4
                              simp only [Bool.or_false] at K4
                              rw [K4]
                              have l1 : Op.bytesLess key.toList mid.toList = true := (K2.out hfA).1
                              clear K4 hfA hfB
                              go_wp2
                              go_ret
                              exact ⟨rfl, B32.out⟩
                            | true =>
                              exfalso
                              have := (K2.out hfA).2
                              rw [hfB] at this
                              cases this
                      · rintro f a w' ⟨f0, f1, f2, f3, f4, f5, f6, f7, rfl, rfl, _⟩
                        rfl
                    | false =>
                      go_upto_region 21 with fail
                      clear cP
                      go_wp2
                      go_loopg [18] sn.ks.length (fun kx s18 wr => ∃ (i : Nat), s18 = .int .i64 i ∧ i ≤ sn.ks.length ∧ sn.ks.length - i ≤ kx ∧ Aside (KpI zj u13 QJ QS #[.bool jn.leaf, .slice a22e (jn.es.length) c22e, .slice a22k (jn.ks.length) c22k, .slice a22s (jn.ss.length) c22s] #[.bool sn.leaf, .slice a27e (sn.es.length) c27e, .slice a27k (sn.ks.length) c27k, .slice a27s (sn.ss.length) c27s] (.slice a22e (jn.es.length) c22e) (.slice a22k (jn.ks.length) c22k) (.slice a27k (sn.ks.length) c27k) jn.es.length jn.ks.length sn.ks.length wr))
                      case atStart => exact ⟨0, rfl, Nat.zero_le _, Nat.le_refl _, Kv2w⟩
                      case round =>
                        clear Kv2w
                        obtain ⟨i, rfl, hi, hki, KR⟩ := hrel
                        obtain ⟨c0, c1, c2, c3⟩ := KR.out.s.four
                        by_cases hil : i < sn.ks.length
                        ·
                          have hilz : (i : Int) < (sn.ks.length : Int) := by omega
                          obtain ⟨b, cb, eb, hb, kb, kc⟩ := KR.out.ps.at i hil
                          obtain ⟨⟨x0, k0⟩, g0⟩ := kc 0 (by decide)
                          simp only [Nat.add_zero, Nat.mul_one] at k0 g0
                          subst eb
                          have K2 : Aside (KpI zj u13 QJ QS #[.bool jn.leaf, .slice a22e (jn.es.length) c22e, .slice a22k (jn.ks.length) c22k, .slice a22s (jn.ss.length) c22s] #[.bool sn.leaf, .slice a27e (sn.es.length) c27e, .slice (some ⟨b, 0, none⟩) (sn.ks.length) c27k, .slice a27s (sn.ss.length) c27s] (.slice a22e (jn.es.length) c22e) (.slice a22k (jn.ks.length) c22k) (.slice (some ⟨b, 0, none⟩) (sn.ks.length) c27k) jn.es.length jn.ks.length sn.ks.length (wr.setCell ⟨b, i, none⟩ (.int .i64 1))) := KR.out.set i hb kb (by decide) _
                          clear kc kb KR
                          go_wp2
                          go_roundg (sn.ks.length - (i + 1))
                          case measure => omega
                          case rel => exact ⟨i + 1, by go_num, by omega, Nat.le_refl _, K2⟩
                        ·
                          have hilz : ¬ (i : Int) < (sn.ks.length : Int) := by omega
                          obtain rfl : i = sn.ks.length := by omega
                          go_upto_region 25 with fail
                          clear c0 c1 c2 c3
                          generalize wr = v3w at *
                          have Kv3w := KR
                          clear KR
                          have Vv3wP : Aside (Cl v3w p #[.bool false, .slice ae es.length ce, .slice ak ks.length ck, .slice az ss.length cz] 26) := clTo SP.out Kv3w.out.b (by have := SP.out.lt; have := HZj; unfold Sz at this; omega)
                          have Vv3wN : Aside (NdR v3w (.slice ae es.length ce) (.slice ak ks.length ck) (.slice az ss.length cz) ⟨false, es, ks, ss⟩) := SN.out.to Kv3w.out.b (Nat.le_of_eq HZj)
                          have Vv3wKW : Aside (Cl v3w QW #[.bool false, .slice wae es.length wce, .slice wak ks.length wck, .slice was wl.length wcs] 30) := clTo SKW.out Kv3w.out.b (by have := SKW.out.lt; have := HZj; unfold Sz at this; omega)
                          have Vv3wRW : Aside (NdR v3w (.slice wae es.length wce) (.slice wak ks.length wck) (.slice was wl.length wcs) ⟨false, es, ks, wl⟩) := SRW.out.to Kv3w.out.b (Nat.le_of_eq HZj)
                          have Vv3wKA : Aside (Cl v3w QA #[.bool A.leaf, .slice a13e (A.es.length) c13e, .slice a13k (A.ks.length) c13k, .slice a13s (A.ss.length) c13s] 26) := clTo SKA.out Kv3w.out.b (by have := SKA.out.lt; have := HZj; unfold Sz at this; omega)
                          have Vv3wKB : Aside (Cl v3w (QB) #[.bool B.leaf, .slice b13e (B.es.length) d13e, .slice b13k (B.ks.length) d13k, .slice b13s (B.ss.length) d13s] 26) := clTo SKB.out Kv3w.out.b (by have := SKB.out.lt; have := HZj; unfold Sz at this; omega)
                          have Vv3wOA : Aside (NdO ZA v3w (.slice a13e (A.es.length) c13e) (.slice a13k (A.ks.length) c13k) (.slice a13s (A.ss.length) c13s) A) := SOA.out.below (Kv3w.out.b.mono (Nat.le_of_eq HZj))
                          have Vv3wOB : Aside (NdO ZA v3w (.slice b13e (B.es.length) d13e) (.slice b13k (B.ks.length) d13k) (.slice b13s (B.ss.length) d13s) B) := SOB.out.below (Kv3w.out.b.mono (Nat.le_of_eq HZj))
                          have BT : Hid (Below w.heap.size w v3w) := SB.out.trans (Kv3w.out.b.mono (by have := SB.out.size; have := HZj; unfold Sz at this; omega))
                          clear SP SN SKW SRW SKA SKB SOA SOB SB Kv3w
                          go_upto_region 25 with fail
                          refine region_inv 7 (JNow v3w p false (.agg #[.bool false, .slice ae es.length ce, .slice ak ks.length ck, .slice az ss.length cz]) es ks wl _ _ _ _ _ _ _ _ _ _ _ _ _ _ _ _ _ _ _ _ _ _ _ _ _ _ _ _ _ _ _ _ _ _ _ _ _ _ _ _ _ _ _ _ _ _ _ _ _ _ _ _ _ _ _ _ _ _ _ _ _ _ _ _ _ _ _ _ _ _ _ _ _ _ _ _ _ _ _ _ _ _ _ _ _ _ _ _ _ _ _ _ _ _ _ _ _ _ _ _ _ _ _ _ _ _ _ _ _ _ _ _ _ _ _ _ _ _ _ _ _ _ _ _ _ _ _ _ _ _ _ _ _ _ _ _ _ _ _ _ _ _ _ _ _ _ _ _ _ _ _ _ _ _ _ _ _ _ _ _ _ _ _ _ _ _ _ _ _ _ _ _ _ _ _ _ _ _ _ _ _ _ _ _ _ _ _ _ _ _ _ _ _ _ _ _ _ _ _ _ _ _ _ _ _) (by kernel_rfl) (by kernel_rfl) (by kernel_rfl) ⟨false, false, false, false, false, false, false, false, rfl, rfl, _, _, _, _, _, _, _, rfl, (Below.refl _ v3w).drew, (fun h => by cases h), (fun h => by cases h), (fun h => by cases h), (fun h => by cases h), (fun h => by cases h), (fun h => by cases h), (fun h => by cases h)⟩ ?_ ?_ ?_
                          · intro i f a w' hne hl hJ
                            refine JNow.elim hJ (C := fun f a w' => i ∈ Region.ready .any _ f.toArray → wpOp _ _ _ i (fun a' w'' => JNow v3w p false (.agg #[.bool false, .slice ae es.length ce, .slice ak ks.length ck, .slice az ss.length cz]) es ks wl _ _ _ _ _ _ _ _ _ _ _ _ _ _ _ _ _ _ _ _ _ _ _ _ _ _ _ _ _ _ _ _ _ _ _ _ _ _ _ _ _ _ _ _ _ _ _ _ _ _ _ _ _ _ _ _ _ _ _ _ _ _ _ _ _ _ _ _ _ _ _ _ _ _ _ _ _ _ _ _ _ _ _ _ _ _ _ _ _ _ _ _ _ _ _ _ _ _ _ _ _ _ _ _ _ _ _ _ _ _ _ _ _ _ _ _ _ _ _ _ _ _ _ _ _ _ _ _ _ _ _ _ _ _ _ _ _ _ _ _ _ _ _ _ _ _ _ _ _ _ _ _ _ _ _ _ _ _ _ _ _ _ _ _ _ _ _ _ _ _ _ _ _ _ _ _ _ _ _ _ _ _ _ _ _ _ _ _ _ _ _ _ _ _ _ _ _ _ _ _ _ _ _ _ _ (f.set i true) a' w'') a w') ?_
                            clear hJ hl f a
                            intro f0 f1 f2 f3 f4 f5 f6 f7 x19 x107 x108 x109 x110 x111 x112 e7 hB h0 h1 h2 h3 h4 h5 h6 hi
                            obtain ⟨hlt, hun, _⟩ := ready_mem hi
                            have hlt' : i < 8 := hlt
                            clear hlt
                            rcases (by omega : i = 0 ∨ i = 1 ∨ i = 2 ∨ i = 3 ∨ i = 4 ∨ i = 5 ∨ i = 6) with rfl | rfl | rfl | rfl | rfl | rfl | rfl
                            · have un : f0 = false := hun
                              clear hun
                              clear hi hne hlt'
                              obtain ⟨i0, i1, i2, i3⟩ := (Vv3wP.out.on hB).four
                              refine wpOp_step rfl (fun K hK => ?_)
                              have HK : Shut _ := hK
                              clear hK
                              go_simp
                              refine HK.out _ _ ?_
                              exact ⟨true, f1, f2, f3, f4, f5, f6, f7, rfl, e7, _, _, _, _, _, _, _, rfl, hB, (fun _ => rfl), h1, h2, h3, h4, h5, h6⟩
                            · have un : f1 = false := hun
                              clear hun
                              have d0 : f0 = true := ready_dep 0 hi (by kernel_rfl)
                              have y0 := h0.out d0
                              subst y0
                              clear hi hne hlt'
                              refine wpOp_step rfl (fun K hK => ?_)
                              have HK : Shut _ := hK
                              clear hK
                              go_simp
                              refine Calls.mono (of_any false _ _ _ w' ⟨false, es, ks, ss⟩ (Vv3wN.out.below hB)) ?_
                              rintro e w1 ⟨rfl, b1⟩
                              refine HK.out _ _ ?_
                              exact ⟨f0, true, f2, f3, f4, f5, f6, f7, rfl, e7, _, _, _, _, _, _, _, rfl, belCall b1 hB, h0, (fun _ => rfl), h2, h3, h4, (fun d => let ⟨a1, c1, a2, c2, a3, c3, e, o⟩ := h5.out d; ⟨a1, c1, a2, c2, a3, c3, e, o.below (b1)⟩), (fun d => let ⟨q, e, l, c⟩ := h6.out d; ⟨q, e, l, Cl.on c (b1)⟩)⟩
                            · have un : f2 = false := hun
                              clear hun
                              clear hi hne hlt'
                              refine wpOp_step rfl (fun K hK => ?_)
                              have HK : Shut _ := hK
                              clear hK
                              go_simp
                              refine HK.out _ _ ?_
                              exact ⟨f0, f1, true, f3, f4, f5, f6, f7, rfl, e7, _, _, _, _, _, _, _, rfl, hB, h0, h1, (fun _ => rfl), h3, h4, h5, h6⟩
                            · have un : f3 = false := hun
                              clear hun
                              have d2 : f2 = true := ready_dep 2 hi (by kernel_rfl)
                              have y2 := h2.out d2
                              subst y2
                              clear hi hne hlt'
                              obtain ⟨i0, i1, i2, i3⟩ := (Vv3wP.out.on hB).four
                              refine wpOp_step rfl (fun K hK => ?_)
                              have HK : Shut _ := hK
                              clear hK
                              go_simp
                              refine HK.out _ _ ?_
                              exact ⟨f0, f1, f2, true, f4, f5, f6, f7, rfl, e7, _, _, _, _, _, _, _, rfl, hB, h0, h1, h2, (fun _ => rfl), h4, h5, h6⟩
                            · have un : f4 = false := hun
                              clear hun
                              have d3 : f3 = true := ready_dep 3 hi (by kernel_rfl)
                              have y3 := h3.out d3
                              subst y3
                              clear hi hne hlt'
                              refine wpOp_step rfl (fun K hK => ?_)
                              have HK : Shut _ := hK
                              clear hK
                              go_simp
                              refine HK.out _ _ ?_
                              exact ⟨f0, f1, f2, f3, true, f5, f6, f7, rfl, e7, _, _, _, _, _, _, _, rfl, hB, h0, h1, h2, h3, (fun _ => rfl), h5, h6⟩
                            · have un : f5 = false := hun
                              clear hun
                              have d1 : f1 = true := ready_dep 1 hi (by kernel_rfl)
                              have y1 := h1.out d1
                              subst y1
                              have d4 : f4 = true := ready_dep 4 hi (by kernel_rfl)
                              have y4 := h4.out d4
                              subst y4
                              clear hi hne hlt'
                              refine wpOp_step rfl (fun K hK => ?_)
                              have HK : Shut _ := hK
                              clear hK
                              go_simp
                              refine Calls.mono (by
                                      have hh := rnjoin_same ⟨#[120]⟩ ⟨false, es, ks, ss⟩ ⟨false, [], [], []⟩ _ _ _ _ _ _ w' (Vv3wN.out.below hB) (ndr_nil w' false) sm.l ⟨by simp, by simp, by simp⟩ rfl
                                      rw [JW.out] at hh
                                      exact hh) ?_
                              rintro e w1 ⟨x1, x2, x3, rfl, ow, b1⟩
                              obtain ⟨a1, c1, rfl⟩ := ownShape (n := es.length) ow.e
                              obtain ⟨a2, c2, rfl⟩ := ownShape (n := ks.length) ow.k
                              obtain ⟨a3, c3, rfl⟩ := ownShape (n := wl.length) ow.s
                              refine HK.out _ _ ?_
                              exact ⟨f0, f1, f2, f3, f4, true, f6, f7, rfl, e7, _, _, _, _, _, _, _, rfl, belCall b1 hB, h0, h1, h2, h3, h4, (fun _ => ⟨a1, c1, a2, c2, a3, c3, rfl, ow.mono hB.size⟩), (fun d => let ⟨q, e, l, c⟩ := h6.out d; ⟨q, e, l, Cl.on c (b1)⟩)⟩
                            · have un : f6 = false := hun
                              clear hun
                              clear hi hne hlt'
                              refine wpOp_step rfl (fun K hK => ?_)
                              have HK : Shut _ := hK
                              clear hK
                              go_simp
                              refine HK.out _ _ ?_
                              exact ⟨f0, f1, f2, f3, f4, f5, true, f7, rfl, e7, _, _, _, _, _, _, _, rfl, belAlloc _ hB, h0, h1, h2, h3, h4, (fun d => let ⟨a1, c1, a2, c2, a3, c3, e, o⟩ := h5.out d; ⟨a1, c1, a2, c2, a3, c3, e, o.below (belAlloc _ (Below.refl _ _))⟩), (fun _ => ⟨_, rfl, hB.size, Cl.new _ _ _⟩)⟩
                          · intro f a w' hl hJ
                            refine JNow.elim hJ (C := fun f a w' => 7 ∈ Region.ready .any _ f.toArray → wpOp _ _ _ 7 _ a w') ?_
                            clear hJ hl f a
                            intro f0 f1 f2 f3 f4 f5 f6 f7 x19 x107 x108 x109 x110 x111 x112 e7 hB h0 h1 h2 h3 h4 h5 h6 hi
                            have d5 : f5 = true := ready_dep 5 hi (by kernel_rfl)
                            obtain ⟨a5e, c5e, a5k, c5k, a5s, c5s, y5, o5⟩ := h5.out d5
                            subst y5
                            have d6 : f6 = true := ready_dep 6 hi (by kernel_rfl)
                            obtain ⟨q6, y6, l6, c6⟩ := h6.out d6
                            subst y6
                            clear hi
                            obtain ⟨y0, y1, y2, y3⟩ := c6.four
                            obtain ⟨g0, g1, g2, g3⟩ := c6.thaw
                            refine wpOp_step rfl (fun K hK => ?_)
                            have HK : Shut _ := hK
                            clear hK
                            go_simp
                            refine HK.out _ _ ?_
                            have bX : Below v3w.heap.size v3w ((((w'.setCell ⟨q6, 0, none⟩ (.bool false)).setCell ⟨q6, 1, none⟩ (.slice a5e es.length c5e)).setCell ⟨q6, 2, none⟩ (.slice a5k ks.length c5k)).setCell ⟨q6, 3, none⟩ (.slice a5s wl.length c5s)) := belSet4 hB l6
                            have KN : Aside (Cl ((((w'.setCell ⟨q6, 0, none⟩ (.bool false)).setCell ⟨q6, 1, none⟩ (.slice a5e es.length c5e)).setCell ⟨q6, 2, none⟩ (.slice a5k ks.length c5k)).setCell ⟨q6, 3, none⟩ (.slice a5s wl.length c5s)) q6 #[.bool false, .slice a5e es.length c5e, .slice a5k ks.length c5k, .slice a5s wl.length c5s] 30) := c6.set4 _ _ _ _
                            have RN : Aside (NdR ((((w'.setCell ⟨q6, 0, none⟩ (.bool false)).setCell ⟨q6, 1, none⟩ (.slice a5e es.length c5e)).setCell ⟨q6, 2, none⟩ (.slice a5k ks.length c5k)).setCell ⟨q6, 3, none⟩ (.slice a5s wl.length c5s)) (.slice a5e es.length c5e) (.slice a5k ks.length c5k) (.slice a5s wl.length c5s) ⟨false, es, ks, wl⟩) := by
                              have h1 := ownSet4T (a := .bool false) (b := .slice a5e es.length c5e) (c := .slice a5k ks.length c5k) (d := .slice a5s wl.length c5s) o5.e c6 (by decide)
                              have h2 := ownSet4T (a := .bool false) (b := .slice a5e es.length c5e) (c := .slice a5k ks.length c5k) (d := .slice a5s wl.length c5s) o5.k c6 (by decide)
                              have h3 := ownSet4T (a := .bool false) (b := .slice a5e es.length c5e) (c := .slice a5k ks.length c5k) (d := .slice a5s wl.length c5s) o5.s c6 (by decide)
                              exact NdO.r ⟨h1, h2, h3⟩
                            have GNP : Aside (Cl ((((w'.setCell ⟨q6, 0, none⟩ (.bool false)).setCell ⟨q6, 1, none⟩ (.slice a5e es.length c5e)).setCell ⟨q6, 2, none⟩ (.slice a5k ks.length c5k)).setCell ⟨q6, 3, none⟩ (.slice a5s wl.length c5s)) p #[.bool false, .slice ae es.length ce, .slice ak ks.length ck, .slice az ss.length cz] 26) := Cl.on Vv3wP.out bX
                            have GNN : Aside (NdR ((((w'.setCell ⟨q6, 0, none⟩ (.bool false)).setCell ⟨q6, 1, none⟩ (.slice a5e es.length c5e)).setCell ⟨q6, 2, none⟩ (.slice a5k ks.length c5k)).setCell ⟨q6, 3, none⟩ (.slice a5s wl.length c5s)) (.slice ae es.length ce) (.slice ak ks.length ck) (.slice az ss.length cz) ⟨false, es, ks, ss⟩) := Vv3wN.out.below bX
                            have GNKW : Aside (Cl ((((w'.setCell ⟨q6, 0, none⟩ (.bool false)).setCell ⟨q6, 1, none⟩ (.slice a5e es.length c5e)).setCell ⟨q6, 2, none⟩ (.slice a5k ks.length c5k)).setCell ⟨q6, 3, none⟩ (.slice a5s wl.length c5s)) QW #[.bool false, .slice wae es.length wce, .slice wak ks.length wck, .slice was wl.length wcs] 30) := Cl.on Vv3wKW.out bX
                            have GNRW : Aside (NdR ((((w'.setCell ⟨q6, 0, none⟩ (.bool false)).setCell ⟨q6, 1, none⟩ (.slice a5e es.length c5e)).setCell ⟨q6, 2, none⟩ (.slice a5k ks.length c5k)).setCell ⟨q6, 3, none⟩ (.slice a5s wl.length c5s)) (.slice wae es.length wce) (.slice wak ks.length wck) (.slice was wl.length wcs) ⟨false, es, ks, wl⟩) := Vv3wRW.out.below bX
                            have GNKA : Aside (Cl ((((w'.setCell ⟨q6, 0, none⟩ (.bool false)).setCell ⟨q6, 1, none⟩ (.slice a5e es.length c5e)).setCell ⟨q6, 2, none⟩ (.slice a5k ks.length c5k)).setCell ⟨q6, 3, none⟩ (.slice a5s wl.length c5s)) QA #[.bool A.leaf, .slice a13e (A.es.length) c13e, .slice a13k (A.ks.length) c13k, .slice a13s (A.ss.length) c13s] 26) := Cl.on Vv3wKA.out bX
                            have GNKB : Aside (Cl ((((w'.setCell ⟨q6, 0, none⟩ (.bool false)).setCell ⟨q6, 1, none⟩ (.slice a5e es.length c5e)).setCell ⟨q6, 2, none⟩ (.slice a5k ks.length c5k)).setCell ⟨q6, 3, none⟩ (.slice a5s wl.length c5s)) (QB) #[.bool B.leaf, .slice b13e (B.es.length) d13e, .slice b13k (B.ks.length) d13k, .slice b13s (B.ss.length) d13s] 26) := Cl.on Vv3wKB.out bX
                            have GNOA : Aside (NdO ZA ((((w'.setCell ⟨q6, 0, none⟩ (.bool false)).setCell ⟨q6, 1, none⟩ (.slice a5e es.length c5e)).setCell ⟨q6, 2, none⟩ (.slice a5k ks.length c5k)).setCell ⟨q6, 3, none⟩ (.slice a5s wl.length c5s)) (.slice a13e (A.es.length) c13e) (.slice a13k (A.ks.length) c13k) (.slice a13s (A.ss.length) c13s) A) := Vv3wOA.out.below bX
                            have GNOB : Aside (NdO ZA ((((w'.setCell ⟨q6, 0, none⟩ (.bool false)).setCell ⟨q6, 1, none⟩ (.slice a5e es.length c5e)).setCell ⟨q6, 2, none⟩ (.slice a5k ks.length c5k)).setCell ⟨q6, 3, none⟩ (.slice a5s wl.length c5s)) (.slice b13e (B.es.length) d13e) (.slice b13k (B.ks.length) d13k) (.slice b13s (B.ss.length) d13s) B) := Vv3wOB.out.below bX
                            have BN : Hid (Below w.heap.size w ((((w'.setCell ⟨q6, 0, none⟩ (.bool false)).setCell ⟨q6, 1, none⟩ (.slice a5e es.length c5e)).setCell ⟨q6, 2, none⟩ (.slice a5k ks.length c5k)).setCell ⟨q6, 3, none⟩ (.slice a5s wl.length c5s))) := BT.out.trans (bX.mono BT.out.size)
                            clear o5 c6 hB bX y0 y1 y2 y3 g0 g1 g2 g3 h0 h1 h2 h3 h4 h5 h6 Vv3wP Vv3wN Vv3wKW Vv3wRW Vv3wKA Vv3wKB Vv3wOA Vv3wOB BT
                            go_upto_region 26 with fail
                            clear l6
                            generalize ((((w'.setCell ⟨q6, 0, none⟩ (.bool false)).setCell ⟨q6, 1, none⟩ (.slice a5e es.length c5e)).setCell ⟨q6, 2, none⟩ (.slice a5k ks.length c5k)).setCell ⟨q6, 3, none⟩ (.slice a5s wl.length c5s)) = un at *
                            generalize q6 = QN at *
                            obtain ⟨q30KW0, q30KW1, q30KW2, q30KW3⟩ := GNKW.out.four
                            have q30KWl := GNKW.out.lt
                            obtain ⟨q30KN0, q30KN1, q30KN2, q30KN3⟩ := KN.out.four
                            have q30KNl := KN.out.lt
                            have C31 : Hid _ := nsame_any ⟨false, es, ks, wl⟩ _ _ _ _ _ _ un GNRW.out RN.out SW.out
                            go_wp2_with fail
                            refine Calls.mono C31.out ?_
                            rintro e w31 ⟨rfl, hb31⟩
                            clear C31
                            clear q30KW0 q30KW1 q30KW2 q30KW3 q30KWl q30KN0 q30KN1 q30KN2 q30KN3 q30KNl
                            have B32 : Hid (Below w.heap.size w w31) := BN.out.trans (hb31.mono BN.out.size)
                            have F32P : Aside (Cl w31 p #[.bool false, .slice ae es.length ce, .slice ak ks.length ck, .slice az ss.length cz] 26) := Cl.on GNP.out hb31
                            clear GNP
                            have F32N : Aside (NdR w31 (.slice ae es.length ce) (.slice ak ks.length ck) (.slice az ss.length cz) ⟨false, es, ks, ss⟩) := GNN.out.below hb31
                            clear GNN
                            have F32KW : Aside (Cl w31 QW #[.bool false, .slice wae es.length wce, .slice wak ks.length wck, .slice was wl.length wcs] 30) := Cl.on GNKW.out hb31
                            clear GNKW
                            have F32RW : Aside (NdR w31 (.slice wae es.length wce) (.slice wak ks.length wck) (.slice was wl.length wcs) ⟨false, es, ks, wl⟩) := GNRW.out.below hb31
                            clear GNRW
                            have F32KA : Aside (Cl w31 QA #[.bool A.leaf, .slice a13e (A.es.length) c13e, .slice a13k (A.ks.length) c13k, .slice a13s (A.ss.length) c13s] 26) := Cl.on GNKA.out hb31
                            clear GNKA
                            have F32KB : Aside (Cl w31 (QB) #[.bool B.leaf, .slice b13e (B.es.length) d13e, .slice b13k (B.ks.length) d13k, .slice b13s (B.ss.length) d13s] 26) := Cl.on GNKB.out hb31
                            clear GNKB
                            have F32OA : Aside (NdO ZA w31 (.slice a13e (A.es.length) c13e) (.slice a13k (A.ks.length) c13k) (.slice a13s (A.ss.length) c13s) A) := GNOA.out.below hb31
                            clear GNOA
                            have F32OB : Aside (NdO ZA w31 (.slice b13e (B.es.length) d13e) (.slice b13k (B.ks.length) d13k) (.slice b13s (B.ss.length) d13s) B) := GNOB.out.below hb31
                            clear GNOB
                            have F32KN : Aside (Cl w31 QN #[.bool false, .slice a5e es.length c5e, .slice a5k ks.length c5k, .slice a5s wl.length c5s] 30) := Cl.on KN.out hb31
                            clear KN
                            have F32RN : Aside (NdR w31 (.slice a5e es.length c5e) (.slice a5k ks.length c5k) (.slice a5s wl.length c5s) ⟨false, es, ks, wl⟩) := RN.out.below hb31
                            clear RN
                            clear BN
                            clear hb31
                            obtain ⟨q32P0, q32P1, q32P2, q32P3⟩ := F32P.out.four
                            have q32Pl := F32P.out.lt
                            obtain ⟨q32KA0, q32KA1, q32KA2, q32KA3⟩ := F32KA.out.four
                            have q32KAl := F32KA.out.lt
                            obtain ⟨q32KB0, q32KB1, q32KB2, q32KB3⟩ := F32KB.out.four
                            have q32KBl := F32KB.out.lt
                            cases hen : enN ⟨false, es, ks, ss⟩ with
                            | false =>
                              obtain rfl : (⟨#[]⟩ : ByteArray) = mid := by rw [← HMd.out]; unfold sM; rw [hen]; rfl
                              clear hen
                              go_wp2
                              go_ret
                              exact ⟨rfl, B32.out⟩
                            | true =>
                              have hmid : mid ≠ ⟨#[]⟩ := by
                                intro e
                                have := spM_size hen
                                rw [← HMd.out] at e
                                unfold sM at e
                                rw [if_pos hen] at e
                                rw [e] at this
                                exact absurd this (by decide)
                              have hm1 := str_no hmid
                              have hm2 : mid.toList.isEmpty = false := by
                                cases h : mid.toList with
                                | nil => exact absurd (baL_inj (h.trans (by simp))) hmid
                                | cons _ _ => rfl
                              have HK : Hid _ := sp_child hen rfl key
                              have a1 := HA.out
                              have a2 := HMd.out
                              have a3 := HBn.out
                              unfold sA at a1
                              unfold sM at a2
                              unfold sB at a3
                              rw [if_pos hen] at a1 a2 a3
                              rw [a1, a2, a3] at HK
                              simp only at HK
                              have smA : Sm A := by rw [← a1]; exact spA_sm sm
                              have smB : Sm B := by rw [← a3]; exact spB_sm sm
                              have cl : chN ss key ≤ 60 := Nat.le_trans (chN_le _ _) s3
                              have ca : A.ks.length ≤ 1000 := smA.k
                              clear a1 a2 a3 hen hmid
                              have C33 : Hid _ := child_any ⟨false, es, ks, ss⟩ key _ _ _ w31 F32N.out sm
                              go_wp2_with fail
                              refine Calls.mono C33.out ?_
                              rintro e w33 ⟨rfl, hb33⟩
                              clear C33
                              clear q32P0 q32P1 q32P2 q32P3 q32Pl q32KA0 q32KA1 q32KA2 q32KA3 q32KAl q32KB0 q32KB1 q32KB2 q32KB3 q32KBl
                              have B34 : Hid (Below w.heap.size w w33) := B32.out.trans (hb33.mono B32.out.size)
                              have F34P : Aside (Cl w33 p #[.bool false, .slice ae es.length ce, .slice ak ks.length ck, .slice az ss.length cz] 26) := Cl.on F32P.out hb33
                              clear F32P
                              have F34N : Aside (NdR w33 (.slice ae es.length ce) (.slice ak ks.length ck) (.slice az ss.length cz) ⟨false, es, ks, ss⟩) := F32N.out.below hb33
                              clear F32N
                              have F34KW : Aside (Cl w33 QW #[.bool false, .slice wae es.length wce, .slice wak ks.length wck, .slice was wl.length wcs] 30) := Cl.on F32KW.out hb33
                              clear F32KW
                              have F34RW : Aside (NdR w33 (.slice wae es.length wce) (.slice wak ks.length wck) (.slice was wl.length wcs) ⟨false, es, ks, wl⟩) := F32RW.out.below hb33
                              clear F32RW
                              have F34KA : Aside (Cl w33 QA #[.bool A.leaf, .slice a13e (A.es.length) c13e, .slice a13k (A.ks.length) c13k, .slice a13s (A.ss.length) c13s] 26) := Cl.on F32KA.out hb33
                              clear F32KA
                              have F34KB : Aside (Cl w33 (QB) #[.bool B.leaf, .slice b13e (B.es.length) d13e, .slice b13k (B.ks.length) d13k, .slice b13s (B.ss.length) d13s] 26) := Cl.on F32KB.out hb33
                              clear F32KB
                              have F34OA : Aside (NdO ZA w33 (.slice a13e (A.es.length) c13e) (.slice a13k (A.ks.length) c13k) (.slice a13s (A.ss.length) c13s) A) := F32OA.out.below hb33
                              clear F32OA
                              have F34OB : Aside (NdO ZA w33 (.slice b13e (B.es.length) d13e) (.slice b13k (B.ks.length) d13k) (.slice b13s (B.ss.length) d13s) B) := F32OB.out.below hb33
                              clear F32OB
                              have F34KN : Aside (Cl w33 QN #[.bool false, .slice a5e es.length c5e, .slice a5k ks.length c5k, .slice a5s wl.length c5s] 30) := Cl.on F32KN.out hb33
                              clear F32KN
                              have F34RN : Aside (NdR w33 (.slice a5e es.length c5e) (.slice a5k ks.length c5k) (.slice a5s wl.length c5s) ⟨false, es, ks, wl⟩) := F32RN.out.below hb33
                              clear F32RN
                              clear B32
                              clear hb33
                              obtain ⟨q34P0, q34P1, q34P2, q34P3⟩ := F34P.out.four
                              have q34Pl := F34P.out.lt
                              obtain ⟨q34KA0, q34KA1, q34KA2, q34KA3⟩ := F34KA.out.four
                              have q34KAl := F34KA.out.lt
                              obtain ⟨q34KB0, q34KB1, q34KB2, q34KB3⟩ := F34KB.out.four
                              have q34KBl := F34KB.out.lt
                              cases hlk : ltK key mid with
                              | true =>
                                have l1 : Op.bytesLess key.toList mid.toList = true := hlk
                                have e1 := HK.out.1 hlk
                                clear HK hlk
                                have C35 : Hid _ := child_any A key _ _ _ w33 F34OA.out.r smA
                                rw [e1] at C35
                                go_wp2_with fail
                                refine Calls.mono C35.out ?_
                                rintro e w35 ⟨rfl, hb35⟩
                                clear C35
                                clear q34P0 q34P1 q34P2 q34P3 q34Pl q34KA0 q34KA1 q34KA2 q34KA3 q34KAl q34KB0 q34KB1 q34KB2 q34KB3 q34KBl
                                have B36 : Hid (Below w.heap.size w w35) := B34.out.trans (hb35.mono B34.out.size)
                                have F36P : Aside (Cl w35 p #[.bool false, .slice ae es.length ce, .slice ak ks.length ck, .slice az ss.length cz] 26) := Cl.on F34P.out hb35
                                clear F34P
                                have F36N : Aside (NdR w35 (.slice ae es.length ce) (.slice ak ks.length ck) (.slice az ss.length cz) ⟨false, es, ks, ss⟩) := F34N.out.below hb35
                                clear F34N
                                have F36KW : Aside (Cl w35 QW #[.bool false, .slice wae es.length wce, .slice wak ks.length wck, .slice was wl.length wcs] 30) := Cl.on F34KW.out hb35
                                clear F34KW
                                have F36RW : Aside (NdR w35 (.slice wae es.length wce) (.slice wak ks.length wck) (.slice was wl.length wcs) ⟨false, es, ks, wl⟩) := F34RW.out.below hb35
                                clear F34RW
                                have F36KA : Aside (Cl w35 QA #[.bool A.leaf, .slice a13e (A.es.length) c13e, .slice a13k (A.ks.length) c13k, .slice a13s (A.ss.length) c13s] 26) := Cl.on F34KA.out hb35
                                clear F34KA
                                have F36KB : Aside (Cl w35 (QB) #[.bool B.leaf, .slice b13e (B.es.length) d13e, .slice b13k (B.ks.length) d13k, .slice b13s (B.ss.length) d13s] 26) := Cl.on F34KB.out hb35
                                clear F34KB
                                have F36OA : Aside (NdO ZA w35 (.slice a13e (A.es.length) c13e) (.slice a13k (A.ks.length) c13k) (.slice a13s (A.ss.length) c13s) A) := F34OA.out.below hb35
                                clear F34OA
                                have F36OB : Aside (NdO ZA w35 (.slice b13e (B.es.length) d13e) (.slice b13k (B.ks.length) d13k) (.slice b13s (B.ss.length) d13s) B) := F34OB.out.below hb35
                                clear F34OB
                                have F36KN : Aside (Cl w35 QN #[.bool false, .slice a5e es.length c5e, .slice a5k ks.length c5k, .slice a5s wl.length c5s] 30) := Cl.on F34KN.out hb35
                                clear F34KN
                                have F36RN : Aside (NdR w35 (.slice a5e es.length c5e) (.slice a5k ks.length c5k) (.slice a5s wl.length c5s) ⟨false, es, ks, wl⟩) := F34RN.out.below hb35
                                clear F34RN
                                clear B34
                                clear hb35
                                clear e1
                                go_wp2
                                go_ret
                                exact ⟨rfl, B36.out⟩
                              | false =>
                                have l1 : Op.bytesLess key.toList mid.toList = false := hlk
                                have e1 := HK.out.2 hlk
                                clear HK hlk
                                obtain ⟨cn, hcn⟩ : ∃ x, chN ss key = x := ⟨_, rfl⟩
                                obtain ⟨cb, hcb⟩ : ∃ x, chN B.ss key = x := ⟨_, rfl⟩
                                rw [hcn, hcb] at e1
                                rw [hcn] at cl
                                simp only [hcn]
                                have CB : Hid (∀ X, Below w33.heap.size w33 X → Calls Try.prog 21 #[.agg #[.bool B.leaf, .slice b13e (B.es.length) d13e, .slice b13k (B.ks.length) d13k, .slice b13s (B.ss.length) d13s], .string key] X fun e w' => e = .returned (.int .i64 cb) ∧ Below X.heap.size X w') := fun X hX => by
                                  have := child_any B key _ _ _ X (F34OB.out.r.below hX) smB
                                  rw [hcb] at this
                                  exact this
                                go_upto_region 38 with fail
                                have sub1 : IntKind.i64.wrap ((cn : Int) - (A.ks.length : Int)) = (cb : Int) := by rw [IntKind.wrap_i64]; omega
                                clear hcn hcb e1
                                clear q34P0 q34P1 q34P2 q34P3 q34Pl q34KA0 q34KA1 q34KA2 q34KA3 q34KAl q34KB0 q34KB1 q34KB2 q34KB3 q34KBl
                                have KS2 : Hid (∀ X, Below w33.heap.size w33 X → X.cell? ⟨QB, 0, none⟩ = some (.bool B.leaf) ∧ X.cell? ⟨QB, 1, none⟩ = some (.slice b13e (B.es.length) d13e) ∧ X.cell? ⟨QB, 2, none⟩ = some (.slice b13k (B.ks.length) d13k) ∧ X.cell? ⟨QB, 3, none⟩ = some (.slice b13s (B.ss.length) d13s) ∧ X.cell? ⟨QA, 2, none⟩ = some (.slice a13k (A.ks.length) c13k)) := fun X hX => by
                                  obtain ⟨t0, t1, t2, t3⟩ := ((F34KB.out).on hX).four
                                  exact ⟨t0, t1, t2, t3, ((F34KA.out).on hX).four.2.2.1⟩
                                have hS := KS2.out _ (Below.refl _ w33)
                                first | go_region_held3 (fun X => X.cell? ⟨QB, 0, none⟩ = some (.bool B.leaf) ∧ X.cell? ⟨QB, 1, none⟩ = some (.slice b13e (B.es.length) d13e) ∧ X.cell? ⟨QB, 2, none⟩ = some (.slice b13k (B.ks.length) d13k) ∧ X.cell? ⟨QB, 3, none⟩ = some (.slice b13s (B.ss.length) d13s) ∧ X.cell? ⟨QA, 2, none⟩ = some (.slice a13k (A.ks.length) c13k)) (first | assumption | exact hS) ((go_at_call 21; refine Calls.mono (CB.out _ (Below.refl _ w33).drew) ?_; rintro e wz ⟨rfl, hz⟩; have hS := KS2.out _ ((Below.refl _ w33).drew.trans hz); have BZ : Hid (Below w33.heap.size w33 wz) := (Below.refl _ w33).drew.trans hz; clear hz)) | fail
                                go_wp2
                                go_ret
                                exact ⟨rfl, B34.out.trans (BZ.out.mono B34.out.size)⟩
                          · rintro f a w' ⟨f0, f1, f2, f3, f4, f5, f6, f7, rfl, rfl, _⟩
                            rfl
          · rintro f a w' ⟨f0, f1, f2, f3, f4, f5, f6, f7, rfl, rfl, _⟩
            rfl

end Go.Proofs.Ytmamnlphhiaeoaa
