/-
  The walk of AllocKeeps.
-/
import Derived.Test.YtnngfkjbbedkpaaGreatDoorAlKeep
import Derived.Test.YtnngfkjbbedkpaaGreatDoorAlLeast
import Derived.Deep.LoopGhost
namespace Go.Proofs.YtnngfkjbbedkpaaGreatDoor
open Go.Shelf Go.RowKit Go.Lib Go.Sort
set_option linter.unusedVariables false

theorem byteI {i : Nat} (h : i < 16) : #[Value.int .u8 (i : Int)] = ([UInt8.ofNat i].map fun b => Value.int .u8 (b.toNat : Int)).toArray := by
  have : (UInt8.ofNat i).toNat = i := by simp; omega
  simp [this]

/-- A slice of texts that can be read. -/
def StrRowW (w : World) (v : Value) (l : List ByteArray) : Prop := ∃ ao cap, v = .slice ao l.length cap ∧ (l ≠ [] → ∃ r o, ao = some ⟨r, o, none⟩ ∧ r < w.heap.size ∧ ∀ j, j < l.length → w.cell? ⟨r, o + j, none⟩ = some (.string (sAt l j)) ∧ (sAt l j).size ≤ maxLen)
theorem StrRowW.at {w wr : World} {ao : Option Addr} {n cap : Nat} {l : List ByteArray} (h : StrRowW w (.slice ao n cap) l) (hb : Below w.heap.size w wr) {j : Nat} (hj : j < l.length) : ∃ r o, ao = some ⟨r, o, none⟩ ∧ r < wr.heap.size ∧ wr.cell? ⟨r, o + j, none⟩ = some (.string (sAt l j)) ∧ (sAt l j).size ≤ maxLen := by
  obtain ⟨ao', c', e, h1⟩ := h
  cases e
  obtain ⟨r, o, e2, hr, hc⟩ := h1 (by intro e; rw [e] at hj; simp at hj)
  obtain ⟨c1, c2⟩ := hc j hj
  exact ⟨r, o, e2, Nat.lt_of_lt_of_le hr hb.size, (hb.cell (p := ⟨r, o + j, none⟩) hr).trans c1, c2⟩

set_option maxRecDepth 100000 in
set_option maxHeartbeats 8000000 in
theorem allocKeeps (fv : Value) (fr : List Pr) (pages : Int) (bv : Value) (bodies : List ByteArray) (w : World) (TB : Tab w) (hF : Row encP 2 w fv fr) (hp : -9223372036854775808 ≤ pages ∧ pages ≤ 9223372036854775807) (hB : StrRowW w bv bodies) :
    Calls Tryz.prog 4 #[fv, .int .i64 pages, bv] w fun e w' => e = .returned (.bool true) ∧ Below w.heap.size w w' := by
  obtain ⟨fa, fc, rfl, _⟩ := id hF
  obtain ⟨ao, ca, rfl, _⟩ := id hB
  have HF : Aside (Row encP 2 w (.slice fa fr.length fc) fr) := hF
  have HB : Aside (StrRowW w (.slice ao bodies.length ca) bodies) := hB
  have TT : Hid (Tabs w.heap.size w) := tabs_of TB
  have CW : Hid _ := works_any w
  clear hF hB hp TB
  by_cases h31 : (100 : Int) < fr.length
  · go_enter Tryz.func4, Tryz.ntmps4
    go_wp2_with fail
    refine Calls.mono CW.out ?_
    rintro e w1 ⟨rfl, b1⟩
    have B1 : Hid (Below w.heap.size w w1) := b1
    clear b1 CW
    go_wp2
    go_ret
    exact ⟨rfl, B1.out⟩
  by_cases h32 : (30 : Int) < bodies.length
  · go_enter Tryz.func4, Tryz.ntmps4
    go_wp2_with fail
    refine Calls.mono CW.out ?_
    rintro e w1 ⟨rfl, b1⟩
    have B1 : Hid (Below w.heap.size w w1) := b1
    clear b1 CW
    go_wp2
    go_ret
    exact ⟨rfl, B1.out⟩
  have hf100 : fr.length ≤ 100 := by omega
  have hd100 : bodies.length ≤ 30 := by omega
  go_enter Tryz.func4, Tryz.ntmps4
  go_wp2_with fail
  refine Calls.mono CW.out ?_
  rintro e w1 ⟨rfl, b1⟩
  have S1 : Hid (Sep w.heap.size w w1 []) := Sep.nil b1.size b1
  clear b1 CW
  have CD : Hid _ := new_s 16 S1.out
  go_wp2_with fail
  refine Calls.mono CD.out ?_
  rintro e w2 ⟨b, rfl, s2⟩
  have CF : Hid _ := new_f s2
  have K2 : Hid (Up 16 (Dk.new 16) ∧ (Dk.new 16).Ok ∧ (Dk.new 16).writes = 0 ∧ (Dk.new 16).pend.length = 0) := ⟨Up.new 16 (by decide), s2.ok, rfl, rfl⟩
  generalize Dk.new 16 = d0 at *
  clear CD S1 s2
  go_wp2_with fail
  refine Calls.mono CF.out ?_
  rintro e w3 ⟨f, rfl, s3⟩
  have S3 : Hid (Sep w.heap.size w w3 (File f b d0 :: [])) := s3
  clear CF s3
  go_wp2
  go_loopg [10] 16 (fun kx s10 wr => ∃ (i : Nat) (d : Dk), s10 = .int .i64 i ∧ 2 ≤ i ∧ i ≤ 16 ∧ 16 - i ≤ kx ∧ Hid (Sep w.heap.size w wr (File f b d :: [])) ∧ Hid (Up 16 d ∧ d.Ok ∧ d.writes = (i : Int) - 2 ∧ d.pend.length = i - 2 ∧ ∀ j, 2 ≤ j → j < i → d.now j = pageS j 1 (bodyI j)))
  case atStart => exact ⟨2, d0, rfl, Nat.le_refl _, by decide, by decide, S3, K2.out.1, K2.out.2.1, by rw [K2.out.2.2.1]; rfl, K2.out.2.2.2, fun j h1 h2 => by omega⟩
  case round =>
    obtain ⟨i, d, rfl, hi2, hi, hki, SR, KR⟩ := hrel
    clear S3 K2
    by_cases hil : i < 16
    · have hilz : (i : Int) < 16 := by omega
      have hi2z : (2 : Int) ≤ (i : Int) := by omega
      have hconv := conv_new [UInt8.ofNat i] #[.int .u8 (i : Int)] wr 1 1 (byteI hil) rfl
      have hconv2 : Sem.run Tryz.prog (convert 66 9 (.slice (some ⟨wr.heap.size, 0, none⟩) 1 1)) (wr.alloc (.cells #[.int .u8 (i : Int)] 5)) = .ok (.string (bodyI i)) (wr.alloc (.cells #[.int .u8 (i : Int)] 5)) := hconv
      obtain ⟨k1, k2, k3, k4, k5⟩ := KR.out
      have hbs : (bodyI i).size = 1 := rfl
      obtain ⟨g1, g2, g3, g4, g5, g6⟩ := wr_up k1 k2 (i := i) hi2 hil 1 (bodyI i) (by omega) (by omega)
      have CWr : Hid _ := write_f TT.out (SR.out.alloc (.cells #[.int .u8 (i : Int)] 5)) i 1 (bodyI i) (by rw [hbs]; decide) (by omega)
      rw [g1, show ((1 : UInt8).toNat : Int) = 1 from rfl] at CWr
      have K3 : Hid (Up 16 (d.wr i 1 (bodyI i)).2 ∧ (d.wr i 1 (bodyI i)).2.Ok ∧ (d.wr i 1 (bodyI i)).2.writes = ((i + 1 : Nat) : Int) - 2 ∧ (d.wr i 1 (bodyI i)).2.pend.length = i + 1 - 2 ∧ ∀ j, 2 ≤ j → j < i + 1 → (d.wr i 1 (bodyI i)).2.now j = pageS j 1 (bodyI j)) := by
        refine ⟨g2, g6, by rw [g5, k3]; omega, by rw [g4, k4]; omega, fun j h1 h2 => ?_⟩
        rw [g3 j]
        by_cases hij : i = j
        · rw [if_pos hij, hij]
        · rw [if_neg hij]; exact k5 j h1 (by omega)
      generalize (d.wr i 1 (bodyI i)).2 = d2 at *
      clear g1 g2 g3 g4 g5 g6 k1 k2 k3 k4 k5 KR SR hconv hbs
      generalize bodyI i = bi at hconv2 CWr
      go_wp2_with fail
      refine Calls.mono CWr.out ?_
      rintro e w4 ⟨rfl, s4⟩
      have S4 : Hid (Sep w.heap.size w w4 (File f b d2 :: [])) := s4
      clear CWr s4 hconv2
      go_wp2
      go_roundg (16 - (i + 1))
      case measure => omega
      case rel => exact ⟨i + 1, d2, by go_num, by omega, by omega, Nat.le_refl _, S4, K3⟩
    · have hilz : ¬ (i : Int) < 16 := by omega
      obtain rfl : i = 16 := by omega
      have hroom : d.room = 16 := by have := KR.out.1.sl; unfold Dk.room; omega
      have KD : Hid (Up 16 d ∧ d.Ok ∧ d.writes = 14 ∧ d.pend.length = 14 ∧ ∀ j, 2 ≤ j → j < 16 → d.now j = pageS j 1 (bodyI j)) := ⟨KR.out.1, KR.out.2.1, by rw [KR.out.2.2.1]; rfl, KR.out.2.2.2.1, KR.out.2.2.2.2⟩
      have CT := tnew SR.out (by rw [hroom]; decide) (HF.out.below SR.out.bel) (by omega) pages
      rw [hroom] at CT
      have CT2 : Hid _ := CT
      have OK0 : Hid ((TX.new fr pages 16).Ok 16) := TX.new_ok fr pages (by decide)
      have CN0 : Hid ((TX.new fr pages 16).cnt ≤ 0) := Nat.le_refl _
      have FI0 : Hid (Fill (TX.new fr pages 16).fresh [] []) := Fill.nil _
      have AP0 : Hid (Apart (TX.new fr pages 16) [] (mnL [(2, ((TX.new fr pages 16).pages : Int) - 1)] fr)) := Apart.new fr pages (by decide) (by decide)
      generalize TX.new fr pages 16 = x0 at *
      clear SR KR CT
      go_wp2_with fail
      refine Calls.mono CT2.out ?_
      rintro e w4 ⟨t, rfl, s4⟩
      have C5 : Hid _ := tpages s4 OK0.out.p2
      have S4 : Hid (Sep w.heap.size w w4 (Tx t f x0 :: File f b d :: [])) := s4
      clear CT2 s4
      have hp0 := OK0.out.pr
      have hp2 := OK0.out.p2
      have hwz : wrap64 ((x0.pages : Int) - 1) = (x0.pages : Int) - 1 := w64 (by omega) (by omega)
      go_wp2_with fail
      refine Calls.mono C5.out ?_
      rintro e w5 ⟨rfl, rfl⟩
      clear C5
      have CM : Hid _ := minus_o _ _ [(2, (x0.pages : Int) - 1)] fr (w4.alloc (.cells #[.int .i64 2, .int .i64 ((x0.pages : Int) - 1)] 69)) (row_one (Cl.new _ _ _)) (HF.out.below (S4.out.alloc _).bel) (by simp; omega)
      have HUl : Hid ((mnL [(2, (x0.pages : Int) - 1)] fr).length ≤ 102) := by have := mnL_length [(2, (x0.pages : Int) - 1)] fr; show _ ≤ _; simp at this; omega
      generalize mnL [(2, (x0.pages : Int) - 1)] fr = used at *
      have S5 : Hid (Sep w.heap.size w (w4.alloc (.cells #[.int .i64 2, .int .i64 ((x0.pages : Int) - 1)] 69)) (Tx t f x0 :: File f b d :: [])) := S4.out.alloc _
      clear S4 HF hp0 hp2
      generalize (x0.pages : Int) = zp at *
      go_wp2_with fail
      refine Calls.mono CM.out ?_
      rintro e w6 ⟨ua, un, uc, rfl, r6, b6⟩
      have S6 : Hid (Sep w.heap.size w w6 (Tx t f x0 :: File f b d :: FreeR (.slice ua un uc) used :: RowR 3 (.slice none 0 0) (([] : List Int).map (Value.int .i64)) :: RowR 9 (.slice none 0 0) (([] : List ByteArray).map Value.string) :: [])) := ((((S5.out.addFree b6 r6).dn2.addNil 3).dn3).addNil 9).dn4
      clear CM r6 b6 S5 hwz
      go_wp2
      go_loopg [14, 15, 16] bodies.length (fun kx s14 s15 s16 wr => ∃ (i : Nat) (x : TX) (ids : List Int) (puts : List ByteArray) (ia : Option Addr) (ic : Nat) (pa : Option Addr) (pc : Nat), s14 = .slice ia ids.length ic ∧ s15 = .slice pa ids.length pc ∧ s16 = .int .i64 i ∧ i ≤ bodies.length ∧ bodies.length - i ≤ kx ∧ Hid (Sep w.heap.size w wr (Tx t f x :: File f b d :: FreeR (.slice ua un uc) used :: RowR 3 (.slice ia ids.length ic) (ids.map (Value.int .i64)) :: RowR 9 (.slice pa ids.length pc) (puts.map Value.string) :: [])) ∧ Hid (x.Ok 16 ∧ x.cnt ≤ 2 * i ∧ Apart x ids used ∧ Fill x.fresh ids puts ∧ ids.length ≤ i))
      case atStart => exact ⟨0, x0, [], [], none, 0, none, 0, rfl, rfl, rfl, Nat.zero_le _, Nat.le_refl _, S6, OK0.out, CN0.out, AP0.out, FI0.out, Nat.le_refl _⟩
      case round =>
        obtain ⟨i, x, ids, puts, ia, ic, pa, pc, rfl, rfl, rfl, hi, hki, SR, XI⟩ := hrel
        clear S6 OK0 CN0 AP0 FI0
        by_cases hil : i < bodies.length
        · have hilz : (i : Int) < (bodies.length : Int) := by omega
          obtain ⟨r, o, hv, hr, hc, hsz⟩ := HB.out.at SR.out.bel hil
          subst hv
          have HCB : Hid (∀ u, Below w.heap.size w u → u.cell? ⟨r, o + i, none⟩ = some (.string (sAt bodies i)) ∧ r < u.heap.size) := fun u hu => by
            obtain ⟨r', o', e', hr', hc', _⟩ := HB.out.at hu hil
            cases e'
            exact ⟨hc', hr'⟩
          generalize sAt bodies i = sb at *
          have hsm := hsz
          unfold maxLen at hsz
          by_cases h240 : 240 < sb.size
          · have h240z : (240 : Int) < (sb.size : Int) := by omega
            have BR : Hid (Below w.heap.size w wr) := SR.out.bel
            clear SR
            go_wp2
            go_ret
            exact ⟨rfl, BR.out⟩
          · have h240z : ¬ (240 : Int) < (sb.size : Int) := by omega
            have hxc := XI.out.2.1
            have CA := talloc SR.out (by rw [hroom]; exact XI.out.1) (by rw [hroom]; decide) (by omega)
            rw [hroom] at CA
            have CA2 : Hid _ := CA
            by_cases he : (x.alloc 16).1.2 = 0
            · obtain ⟨hm1, hm2, hm3, hm4, hm5⟩ := XI.out.2.2.1.alloc XI.out.1 (by decide) he
              have hfr := alloc_fresh he
              have hok := TX.alloc_ok XI.out.1
              have hcn := alloc_cnt x 16
              rw [he] at CA2
              generalize (x.alloc 16).1.1 = id at *
              generalize (x.alloc 16).2 = x2 at *
              have hso : (x2.fresh id).isSome = true := by rw [hfr, putF_some]; simp
              have hpy := tput_yes hso 2 (s := sb) (by omega)
              have CPt : Hid (∀ u, Sep w.heap.size w u (Tx t f x2 :: File f b d :: FreeR (.slice ua un uc) used :: RowR 3 (.slice ia ids.length ic) (ids.map (Value.int .i64)) :: RowR 9 (.slice pa ids.length pc) (puts.map Value.string) :: []) → _) := fun u hu => tput hu (Wf.of_lt (n := id) (by omega) (by omega)) 2 sb hsm (by omega)
              have XI3 : Hid ((x2.put id 2 sb).2.Ok 16 ∧ (x2.put id 2 sb).2.cnt ≤ 2 * (i + 1) ∧ Apart (x2.put id 2 sb).2 (ids ++ [id]) used ∧ Fill (x2.put id 2 sb).2.fresh (ids ++ [id]) (puts ++ [sb]) ∧ (ids ++ [id]).length ≤ i + 1) := by
                refine ⟨TX.put_ok hok id 2 sb, by rw [hpy]; show x2.cnt + 1 ≤ _; omega, hm5.put id 2 sb, ?_, ?_⟩
                · rw [hpy]
                  show Fill (putF x2.fresh id ⟨true, 2, sb⟩) _ _
                  rw [hfr]
                  exact XI.out.2.2.2.1.step hm1 (by omega)
                · have := XI.out.2.2.2.2
                  simp only [List.length_append, List.length_singleton]; omega
              rw [show (x2.put id 2 sb).1 = 0 by rw [hpy], show ((2 : UInt8).toNat : Int) = 2 from rfl] at CPt
              generalize (x2.put id 2 sb).2 = x3 at *
              have hpl := XI.out.2.2.2.1.len
              have hidl := XI.out.2.2.2.2
              clear hm1 hm2 hm3 hm4 hm5 hfr hok hcn hso hpy he CA XI
              go_wp2_with fail
              refine Calls.mono CA2.out ?_
              rintro e w7 ⟨rfl, s7⟩
              have C8 : Hid _ := CPt.out w7 s7
              obtain ⟨b1, b2⟩ := HCB.out _ s7.bel
              clear CA2 s7 CPt SR hc hr
              go_wp2_with fail
              refine Calls.mono C8.out ?_
              rintro e w8 ⟨rfl, s8⟩
              have S8 : Hid (Sep w.heap.size w w8 (Tx t f x3 :: File f b d :: FreeR (.slice ua un uc) used :: RowR 3 (.slice ia ids.length ic) (ids.map (Value.int .i64)) :: RowR 9 (.slice pa ids.length pc) (puts.map Value.string) :: [])) := s8
              clear C8 s8 b1 b2
              have hln1 : (ids.map (Value.int .i64)).length < 100000 := by simp only [List.length_map]; omega
              go_wp2_with (at_builtin; refine app_int rfl _ _ rfl _ _ rfl (S8.out.alloc _).up3 _ _ id rfl (by simp) hln1 ?_)
              intro ia2 in2 ic2 w9 s9
              have e9 : ids.map (Value.int .i64) ++ [.int .i64 id] = (ids ++ [id]).map (Value.int .i64) := by simp
              rw [e9] at s9
              obtain ⟨b3, b4⟩ := HCB.out _ s9.bel
              have S9 : Hid (Sep w.heap.size w w9 (RowR 9 (.slice pa ids.length pc) (puts.map Value.string) :: Tx t f x3 :: File f b d :: FreeR (.slice ua un uc) used :: RowR 3 (.slice ia2 in2 ic2) ((ids ++ [id]).map (Value.int .i64)) :: [])) := s9.dn3.up4
              have hln2 : (puts.map Value.string).length < 100000 := by simp only [List.length_map]; omega
              have E9 : Hid (ids.map (Value.int .i64) ++ [.int .i64 id] = (ids ++ [id]).map (Value.int .i64)) := e9
              clear s9 e9 S8 hln1
              go_wp2_with (at_builtin; refine app_str rfl _ _ rfl _ _ rfl (S9.out.alloc _) _ _ sb rfl (by simp) hln2 ?_)
              intro pa2 pn2 pc2 w10 s10
              have e10 : puts.map Value.string ++ [.string sb] = (puts ++ [sb]).map Value.string := by simp
              rw [e10] at s10
              have s11 := s10.dn4
              rw [E9.out] at s11
              obtain rfl : in2 = (ids ++ [id]).length := by
                obtain ⟨_, _, e⟩ := s11.up3.shape
                have h9 := e
                injection h9 with _ h10 _
                rw [h10]; simp
              obtain rfl : pn2 = (ids ++ [id]).length := by
                obtain ⟨_, _, e⟩ := s10.shape
                have h9 := e
                injection h9 with _ h10 _
                rw [h10]; simp [hpl]
              have S11 : Hid (Sep w.heap.size w w10 (Tx t f x3 :: File f b d :: FreeR (.slice ua un uc) used :: RowR 3 (.slice ia2 (ids ++ [id]).length ic2) ((ids ++ [id]).map (Value.int .i64)) :: RowR 9 (.slice pa2 (ids ++ [id]).length pc2) ((puts ++ [sb]).map Value.string) :: [])) := s11
              clear s10 s11 e10 S9 hln2 b3 b4
              generalize ids ++ [id] = ids2 at *
              generalize puts ++ [sb] = puts2 at *
              go_wp2
              go_roundg (bodies.length - (i + 1))
              case measure => omega
              case rel => exact ⟨i + 1, x3, ids2, puts2, ia2, ic2, pa2, pc2, rfl, rfl, by go_num, by omega, Nat.le_refl _, S11, XI3⟩
            · obtain ⟨he2, hx2, _, _⟩ := full_room XI.out.1 he
              rw [he2, hx2] at CA2
              generalize (x.alloc 16).1.1 = idz at *
              have heb : ((2 : Int) == 0) = false := rfl
              clear CA he he2 hx2
              go_wp2_with fail
              refine Calls.mono CA2.out ?_
              rintro e w7 ⟨rfl, s7⟩
              have SN : Hid (Sep w.heap.size w w7 (Tx t f x :: File f b d :: FreeR (.slice ua un uc) used :: RowR 3 (.slice ia ids.length ic) (ids.map (Value.int .i64)) :: RowR 9 (.slice pa ids.length pc) (puts.map Value.string) :: [])) := s7
              clear CA2 s7 SR hc hr
              have hids : ids.length ≤ 30 := by have := XI.out.2.2.2.2; omega
              have CWr1 : Hid _ := writes_s SN.out.up1.part
              rw [KD.out.2.2.1] at CWr1
              go_wp2_with fail
              refine Calls.mono CWr1.out ?_
              rintro e w9 ⟨rfl, rfl⟩
              clear CWr1
              go_wp2
              go_loopg [20] ids.length (fun kx s20 wr => ∃ (k : Nat), s20 = .int .i64 k ∧ k ≤ ids.length ∧ ids.length - k ≤ kx ∧ Hid (Sep w.heap.size w wr (Tx t f x :: File f b d :: FreeR (.slice ua un uc) used :: RowR 3 (.slice ia ids.length ic) (ids.map (Value.int .i64)) :: RowR 9 (.slice pa ids.length pc) (puts.map Value.string) :: [])))
              case atStart => exact ⟨0, rfl, Nat.zero_le _, Nat.le_refl _, SN⟩
              case round =>
                obtain ⟨k, rfl, hk2, hkk, SK⟩ := hrel
                clear SN
                by_cases hkl : k < ids.length
                · have hklz : (k : Int) < (ids.length : Int) := by omega
                  obtain ⟨r3, o3, hv3, hr3, hc3⟩ := SK.out.up3.introw.at hkl
                  subst hv3
                  obtain ⟨fl1, fl2⟩ := XI.out.2.2.2.1.at' k hkl
                  have hwf : Wf (ids.getD k 0) := by
                    have h1 := XI.out.1.fs _ (by rw [fl1]; rfl)
                    have h2 := XI.out.1.pr
                    exact Wf.of_lt (by omega) (by omega)
                  have g1 : x.get d (ids.getD k 0) 2 = ((sAt puts k, 0), d) := by unfold TX.get; rw [fl1]; rfl
                  have g2 : x.get d (ids.getD k 0) 1 = ((ByteArray.empty, 3), d) := by unfold TX.get; rw [fl1]; rfl
                  have hxl := XI.out.1.len
                  have hxp := XI.out.1.pr
                  have HCK : Hid (∀ u, Sep w.heap.size w u (Tx t f x :: File f b d :: FreeR (.slice ua un uc) used :: RowR 3 (.slice (some ⟨r3, o3, none⟩) ids.length ic) (ids.map (Value.int .i64)) :: RowR 9 (.slice pa ids.length pc) (puts.map Value.string) :: []) → u.cell? ⟨r3, o3 + k, none⟩ = some (.int .i64 (ids.getD k 0)) ∧ ∃ pr, pa = some ⟨pr, 0, none⟩ ∧ u.cell? ⟨pr, k, none⟩ = some (.string (sAt puts k))) := fun u hu => by
                    obtain ⟨r4, o4, hv4, _, hc4⟩ := hu.up3.introw.at hkl
                    cases hv4
                    refine ⟨hc4, ?_⟩
                    obtain ⟨r5, c5, e5, _, _, hc5, _⟩ := hu.up4.cell (j := k) (by rw [List.length_map, XI.out.2.2.2.1.len]; exact hkl)
                    have e6 : pa = some ⟨r5, 0, none⟩ := by injection e5
                    exact ⟨r5, e6, by rw [hc5]; simp [sAt, List.getD_eq_getElem?_getD, show k < puts.length by rw [XI.out.2.2.2.1.len]; exact hkl]⟩
                  have G1 : Hid _ := tget TT.out SK.out hwf 2 XI.out.1.p2 (by omega)
                  rw [g1, show ((2 : UInt8).toNat : Int) = 2 from rfl] at G1
                  have G2 : Hid (∀ u, Sep w.heap.size w u (Tx t f x :: File f b d :: FreeR (.slice ua un uc) used :: RowR 3 (.slice (some ⟨r3, o3, none⟩) ids.length ic) (ids.map (Value.int .i64)) :: RowR 9 (.slice pa ids.length pc) (puts.map Value.string) :: []) → _) := fun u hu => tget TT.out hu hwf 1 XI.out.1.p2 (by omega)
                  rw [g2, show ((1 : UInt8).toNat : Int) = 1 from rfl] at G2
                  generalize ids.getD k 0 = id at *
                  generalize sAt puts k = bk at *
                  clear g1 g2 fl1 fl2 hwf hxl hxp
                  go_wp2_with fail
                  refine Calls.mono G1.out ?_
                  rintro e w10 ⟨rfl, s10⟩
                  have m1 := (HCK.out _ s10).1
                  have C11 : Hid _ := G2.out _ s10
                  clear G1 G2 s10 SK hc3 hr3
                  go_wp2_with fail
                  refine Calls.mono C11.out ?_
                  rintro e w11 ⟨rfl, s11⟩
                  obtain ⟨m2, pr, hpr, m3⟩ := HCK.out _ s11
                  subst hpr
                  have S11 : Hid _ := s11
                  clear C11 s11 m1 m2 HCK
                  go_wp2
                  go_roundg (ids.length - (k + 1))
                  case measure => omega
                  case rel => exact ⟨k + 1, by go_num, by omega, Nat.le_refl _, S11⟩
                · have hklz : ¬ (k : Int) < (ids.length : Int) := by omega
                  obtain rfl : k = ids.length := by omega
                  have CW1 : Hid _ := writes_s SK.out.up1.part
                  rw [KD.out.2.2.1] at CW1
                  have HFM : ∀ q, (x.fresh q).isSome = true → 2 ≤ q ∧ q < 16 ∧ ∃ s, x.fresh q = some ⟨true, 2, s⟩ ∧ s.size ≤ 240 := fun q hq => by
                    have h1 := XI.out.1.fs q hq
                    have h2 := XI.out.1.pr
                    exact ⟨h1.1, by omega, XI.out.2.2.2.1.mem ((XI.out.2.2.1.me q).2 hq)⟩
                  have CFl : Hid _ := tflush TT.out SK.out (by have := XI.out.2.1; omega) (by have := KD.out.2.2.2.1; omega) (fun q c hq => by
                    obtain ⟨_, _, s, e1, e2⟩ := HFM q (by rw [hq]; rfl)
                    rw [hq] at e1
                    cases e1
                    exact e2) (fun q hq => by
                    obtain ⟨a1, a2, _⟩ := HFM q hq
                    exact Wf.of_lt (by omega) (by omega))
                  have HM : Hid (∀ q, (x.fresh q).isSome = true → 2 ≤ q ∧ q < 16 ∧ ∃ s, x.fresh q = some ⟨true, 2, s⟩ ∧ s.size ≤ 240) := HFM
                  clear HFM
                  go_wp2_with fail
                  refine Calls.mono CW1.out ?_
                  rintro e w12 ⟨rfl, rfl⟩
                  clear CW1 SK
                  go_wp2_with fail
                  refine Calls.mono CFl.out ?_
                  rintro e w13 ⟨L, hL, _, rfl, s13⟩
                  obtain ⟨F1, F2, F3, F4, F5⟩ := flush_up (g := x.fresh) (n := 16) (by decide) L d KD.out.1 KD.out.2.1 (fun q hq => HM.out q ((hL.2 q).1 hq)) (hL.1.imp fun h => by omega) (by rw [KD.out.2.2.1]; decide) (by
                    have h1 := XI.out.2.2.1.taken hL
                    rw [KD.out.2.2.1, h1]; omega)
                  have hLl := XI.out.2.2.1.taken hL
                  have hLm : ∀ q, q ∈ L ↔ q ∈ ids := fun q => by rw [hL.2, XI.out.2.2.1.me]
                  generalize flushL x.fresh L d = RR at *
                  obtain ⟨er, d3⟩ := RR
                  simp only at F1 F2 F3 F4 F5 s13
                  subst F1
                  rw [KD.out.2.2.1, hLl] at F4
                  have K3 : Hid (Up 16 d3 ∧ ∀ j : Nat, d3.now j = if (j : Int) ∈ ids then pageS j 2 (bodyOf x.fresh j) else d.now j) := ⟨F2, fun j => by rw [F5 j]; simp only [hLm]⟩
                  have CW2 : Hid _ := writes_s s13.up1.part
                  rw [F4] at CW2
                  have CP2 : Hid _ := pending_s s13.up1.part
                  rw [F3] at CP2
                  have S13 : Hid (Sep w.heap.size w w13 (Tx t f x :: File f b d3 :: FreeR (.slice ua un uc) used :: RowR 3 (.slice ia ids.length ic) (ids.map (Value.int .i64)) :: RowR 9 (.slice pa ids.length pc) (puts.map Value.string) :: [])) := s13
                  clear CFl s13 F2 F3 F4 F5 hLl hLm hL
                  have hidz : (ids.length : Int) ≤ 30 := by omega
                  simp only [List.length_nil] at CP2
                  go_wp2_with fail
                  refine Calls.mono CW2.out ?_
                  rintro e w14 ⟨rfl, rfl⟩
                  clear CW2
                  go_wp2_with fail
                  refine Calls.mono CP2.out ?_
                  rintro e w14 ⟨rfl, rfl⟩
                  clear CP2
                  go_wp2
                  go_loopg [25] ids.length (fun kx s25 wr => ∃ (k : Nat) (dd : Dk), s25 = .int .i64 k ∧ k ≤ ids.length ∧ ids.length - k ≤ kx ∧ Hid (Sep w.heap.size w wr (Tx t f x :: File f b dd :: FreeR (.slice ua un uc) used :: RowR 3 (.slice ia ids.length ic) (ids.map (Value.int .i64)) :: RowR 9 (.slice pa ids.length pc) (puts.map Value.string) :: [])) ∧ Hid (Up 16 dd ∧ ∀ j, dd.now j = d3.now j))
                  case atStart => exact ⟨0, d3, rfl, Nat.zero_le _, Nat.le_refl _, S13, K3.out.1, fun _ => rfl⟩
                  case round =>
                    obtain ⟨k, dd, rfl, hk2, hkk, SK, KK⟩ := hrel
                    clear S13
                    by_cases hkl : k < ids.length
                    · have hklz : (k : Int) < (ids.length : Int) := by omega
                      obtain ⟨r3, o3, hv3, hr3, hc3⟩ := SK.out.up3.introw.at hkl
                      subst hv3
                      obtain ⟨fl1, fl2⟩ := XI.out.2.2.2.1.at' k hkl
                      obtain ⟨a1, a2, _⟩ := HM.out (ids.getD k 0) (by rw [fl1]; rfl)
                      obtain ⟨jn, hjn⟩ : ∃ jn : Nat, ids.getD k 0 = (jn : Int) := ⟨(ids.getD k 0).toNat, by omega⟩
                      obtain ⟨u1, u2, u3, _, _⟩ := KK.out.1.rd jn 2 (by omega) (by omega)
                      have hnow : dd.now jn = pageS jn 2 (sAt puts k) := by
                        rw [KK.out.2 jn, K3.out.2 jn, ← hjn, if_pos (getD_mem hkl)]
                        unfold bodyOf
                        rw [fl1]; rfl
                      rw [hnow, open_page jn (by omega) 2 _ fl2] at u1
                      obtain ⟨pr, hpr, hcp⟩ : ∃ pr, pa = some ⟨pr, 0, none⟩ ∧ ∀ u dx, Sep w.heap.size w u (Tx t f x :: File f b dx :: FreeR (.slice ua un uc) used :: RowR 3 (.slice (some ⟨r3, o3, none⟩) ids.length ic) (ids.map (Value.int .i64)) :: RowR 9 (.slice pa ids.length pc) (puts.map Value.string) :: []) → u.cell? ⟨pr, k, none⟩ = some (.string (sAt puts k)) := by
                        have hlk : k < puts.length := by rw [XI.out.2.2.2.1.len]; exact hkl
                        obtain ⟨r5, c5, e5, _⟩ := SK.out.up4.cell (j := k) (by rw [List.length_map]; exact hlk)
                        have e6 : pa = some ⟨r5, 0, none⟩ := by injection e5
                        refine ⟨r5, e6, fun u dx hu => ?_⟩
                        obtain ⟨r7, c7, e7, _, _, hc7, _⟩ := hu.up4.cell (j := k) (by rw [List.length_map]; exact hlk)
                        have e8 : pa = some ⟨r7, 0, none⟩ := by injection e7
                        rw [e6] at e8
                        cases e8
                        rw [hc7]; simp [sAt, List.getD_eq_getElem?_getD, hlk]
                      subst hpr
                      have HCP : Hid _ := hcp
                      have CRd : Hid _ := read_f TT.out SK.out.up1 (ids.getD k 0) 2
                      rw [hjn] at CRd hc3
                      rw [u1, show ((2 : UInt8).toNat : Int) = 2 from rfl] at CRd
                      have KK2 : Hid (Up 16 (dd.rd jn 2).2 ∧ ∀ j, (dd.rd jn 2).2.now j = d3.now j) := ⟨u2, fun j => (u3 j).trans (KK.out.2 j)⟩
                      generalize (dd.rd jn 2).2 = dd2 at *
                      clear hcp fl1 fl2 hnow u1 u2 u3 hjn KK
                      generalize sAt puts k = bk at *
                      go_wp2_with fail
                      refine Calls.mono CRd.out ?_
                      rintro e w15 ⟨rfl, s15⟩
                      have S15 : Hid (Sep w.heap.size w w15 (Tx t f x :: File f b dd2 :: FreeR (.slice ua un uc) used :: RowR 3 (.slice (some ⟨r3, o3, none⟩) ids.length ic) (ids.map (Value.int .i64)) :: RowR 9 (.slice (some ⟨pr, 0, none⟩) ids.length pc) (puts.map Value.string) :: [])) := s15.up1
                      have m5 := HCP.out _ _ S15.out
                      clear CRd s15 SK hc3 hr3 HCP
                      go_wp2
                      go_roundg (ids.length - (k + 1))
                      case measure => omega
                      case rel => exact ⟨k + 1, dd2, by go_num, by omega, Nat.le_refl _, S15, KK2⟩
                    · have hklz : ¬ (k : Int) < (ids.length : Int) := by omega
                      obtain rfl : k = ids.length := by omega
                      have KU : Hid (Up 16 dd ∧ ∀ j : Nat, InR used j → dd.now j = pageS j 1 (bodyI j)) := ⟨KK.out.1, fun j hj => by
                        have h1 := XI.out.2.2.1.ur _ hj
                        have h2 := XI.out.1.pr
                        have h3 : ¬ (j : Int) ∈ ids := fun e => by
                          have := (XI.out.2.2.1.uf _ hj).2
                          rw [(XI.out.2.2.1.me _).1 e] at this
                          cases this
                        rw [KK.out.2 j, K3.out.2 j, if_neg h3]
                        exact KD.out.2.2.2.2 j (by omega) (by omega)⟩
                      clear KK
                      go_wp2
                      go_loopg [28] 16 (fun kx s28 wr => ∃ (i : Nat) (dd : Dk), s28 = .int .i64 i ∧ 2 ≤ i ∧ i ≤ 16 ∧ 16 - i ≤ kx ∧ Hid (Sep w.heap.size w wr (Tx t f x :: File f b dd :: FreeR (.slice ua un uc) used :: RowR 3 (.slice ia ids.length ic) (ids.map (Value.int .i64)) :: RowR 9 (.slice pa ids.length pc) (puts.map Value.string) :: [])) ∧ Hid (Up 16 dd ∧ ∀ j : Nat, InR used j → dd.now j = pageS j 1 (bodyI j)))
                      case atStart => exact ⟨2, dd, rfl, Nat.le_refl _, by decide, by decide, SK, KU⟩
                      case round =>
                        obtain ⟨i, dd, rfl, hi2, hi16, hki, SU, KU2⟩ := hrel
                        clear SK KU
                        by_cases hil : i < 16
                        · have hilz : (i : Int) < 16 := by omega
                          have hi2z : (2 : Int) ≤ (i : Int) := by omega
                          have CH : Hid _ := has_any _ _ (i : Int) wr SU.out.up2.free.row (by have := HUl.out; omega)
                          by_cases hu : InR used i
                          · rw [hasB_yes hu] at CH
                            have hbs : (bodyI i).size ≤ 240 := by show 1 ≤ 240; decide
                            obtain ⟨u1, u2, u3, _, _⟩ := KU2.out.1.rd i 1 hi2 hil
                            rw [KU2.out.2 i hu, open_page i (by omega) 1 _ hbs] at u1
                            have h1 := XI.out.2.2.1.ur _ hu
                            have h2 := XI.out.2.2.1.uf _ hu
                            have h3 : x.fresh (i : Int) = none := by cases hh : x.fresh (i : Int) with
                              | none => rfl
                              | some c => rw [hh] at h2; simp at h2
                            have CR1 : Hid (∀ u, Sep w.heap.size w u (Tx t f x :: File f b dd :: FreeR (.slice ua un uc) used :: RowR 3 (.slice ia ids.length ic) (ids.map (Value.int .i64)) :: RowR 9 (.slice pa ids.length pc) (puts.map Value.string) :: []) → _) := fun u hu => read_f TT.out hu.up1 (i : Int) 1
                            rw [u1, show ((1 : UInt8).toNat : Int) = 1 from rfl] at CR1
                            obtain ⟨dd1, hdd1⟩ : ∃ z, (dd.rd (i : Int) 1).2 = z := ⟨_, rfl⟩
                            rw [hdd1] at CR1 u2 u3
                            obtain ⟨v1, v2, v3, _, _⟩ := u2.rd i 1 hi2 hil
                            rw [u3 i, KU2.out.2 i hu, open_page i (by omega) 1 _ hbs] at v1
                            have hxl := XI.out.1.len
                            have hxp := XI.out.1.pr
                            have g1 : x.get dd1 (i : Int) 1 = ((bodyI i, 0), (dd1.rd (i : Int) 1).2) := by
                              unfold TX.get
                              rw [h3]
                              have : ¬ ((x.pages : Int) ≤ (i : Int) ∨ hasB x.free (i : Int) = true) := by
                                rintro (e | e)
                                · omega
                                · exact h2.1 ((hasB_iff _ _).1 e)
                              simp only [if_neg this]
                              unfold corr
                              rw [v1]
                              rfl
                            have CG1 : Hid (∀ u, Sep w.heap.size w u (Tx t f x :: File f b dd1 :: FreeR (.slice ua un uc) used :: RowR 3 (.slice ia ids.length ic) (ids.map (Value.int .i64)) :: RowR 9 (.slice pa ids.length pc) (puts.map Value.string) :: []) → _) := fun u hu => tget TT.out hu (Wf.of_lt (n := (i : Int)) (by omega) (by omega)) 1 XI.out.1.p2 (by omega)
                            rw [g1, show ((1 : UInt8).toNat : Int) = 1 from rfl] at CG1
                            have KU3 : Hid (Up 16 (dd1.rd (i : Int) 1).2 ∧ ∀ j : Nat, InR used j → (dd1.rd (i : Int) 1).2.now j = pageS j 1 (bodyI j)) := ⟨v2, fun j hj => (v3 j).trans ((u3 j).trans (KU2.out.2 j hj))⟩
                            generalize (dd1.rd (i : Int) 1).2 = dd2 at *
                            have HCV : Hid (∀ u : World, Sem.run Tryz.prog (convert 66 9 (.slice (some ⟨u.heap.size, 0, none⟩) 1 1)) (u.alloc (.cells #[.int .u8 (i : Int)] 5)) = .ok (.string (bodyI i)) (u.alloc (.cells #[.int .u8 (i : Int)] 5))) := fun u => conv_new [UInt8.ofNat i] #[.int .u8 (i : Int)] u 1 1 (byteI hil) rfl
                            generalize bodyI i = bi at CR1 CG1 HCV
                            clear u1 u2 u3 v1 v2 v3 g1 h1 h2 h3 hbs hdd1 KU2
                            go_wp2_with fail
                            refine Calls.mono CH.out ?_
                            rintro e w16 ⟨rfl, b16⟩
                            have C17 : Hid _ := CR1.out w16 (SU.out.below b16)
                            clear CH b16 SU CR1
                            go_wp2_with fail
                            refine Calls.mono C17.out ?_
                            rintro e w17 ⟨rfl, s17⟩
                            have C18 : Hid _ := CG1.out w17 s17.up1
                            clear C17 s17 CG1
                            go_wp2_with fail
                            refine Calls.mono C18.out ?_
                            rintro e w18 ⟨rfl, s18⟩
                            have S18 : Hid (Sep w.heap.size w w18 (Tx t f x :: File f b dd2 :: FreeR (.slice ua un uc) used :: RowR 3 (.slice ia ids.length ic) (ids.map (Value.int .i64)) :: RowR 9 (.slice pa ids.length pc) (puts.map Value.string) :: [])) := s18
                            have hcv := HCV.out w18
                            have S19 : Hid (Sep w.heap.size w (w18.alloc (.cells #[.int .u8 (i : Int)] 5)) (Tx t f x :: File f b dd2 :: FreeR (.slice ua un uc) used :: RowR 3 (.slice ia ids.length ic) (ids.map (Value.int .i64)) :: RowR 9 (.slice pa ids.length pc) (puts.map Value.string) :: [])) := s18.alloc _
                            clear C18 s18 HCV S18
                            go_wp2
                            go_roundg (16 - (i + 1))
                            case measure => omega
                            case rel => exact ⟨i + 1, dd2, by go_num, by omega, by omega, Nat.le_refl _, S19, KU3⟩
                          · rw [hasB_no hu] at CH
                            go_wp2_with fail
                            refine Calls.mono CH.out ?_
                            rintro e w16 ⟨rfl, b16⟩
                            have S16 : Hid (Sep w.heap.size w w16 (Tx t f x :: File f b dd :: FreeR (.slice ua un uc) used :: RowR 3 (.slice ia ids.length ic) (ids.map (Value.int .i64)) :: RowR 9 (.slice pa ids.length pc) (puts.map Value.string) :: [])) := SU.out.below b16
                            clear CH b16 SU
                            go_wp2
                            go_roundg (16 - (i + 1))
                            case measure => omega
                            case rel => exact ⟨i + 1, dd, by go_num, by omega, by omega, Nat.le_refl _, S16, KU2⟩
                        · have hilz : ¬ (i : Int) < 16 := by omega
                          obtain rfl : i = 16 := by omega
                          have BU : Hid (Below w.heap.size w wr) := SU.out.bel
                          clear SU KU2
                          go_wp2
                          go_ret
                          exact ⟨rfl, BU.out⟩
        · have hilz : ¬ (i : Int) < (bodies.length : Int) := by omega
          obtain rfl : i = bodies.length := by omega
          have SN : Hid (Sep w.heap.size w wr (Tx t f x :: File f b d :: FreeR (.slice ua un uc) used :: RowR 3 (.slice ia ids.length ic) (ids.map (Value.int .i64)) :: RowR 9 (.slice pa ids.length pc) (puts.map Value.string) :: [])) := SR
          clear SR
          have hids : ids.length ≤ 30 := by have := XI.out.2.2.2.2; omega
          have CWr1 : Hid _ := writes_s SN.out.up1.part
          rw [KD.out.2.2.1] at CWr1
          go_wp2_with fail
          refine Calls.mono CWr1.out ?_
          rintro e w9 ⟨rfl, rfl⟩
          clear CWr1
          go_wp2
          go_loopg [20] ids.length (fun kx s20 wr => ∃ (k : Nat), s20 = .int .i64 k ∧ k ≤ ids.length ∧ ids.length - k ≤ kx ∧ Hid (Sep w.heap.size w wr (Tx t f x :: File f b d :: FreeR (.slice ua un uc) used :: RowR 3 (.slice ia ids.length ic) (ids.map (Value.int .i64)) :: RowR 9 (.slice pa ids.length pc) (puts.map Value.string) :: [])))
          case atStart => exact ⟨0, rfl, Nat.zero_le _, Nat.le_refl _, SN⟩
          case round =>
            obtain ⟨k, rfl, hk2, hkk, SK⟩ := hrel
            clear SN
            by_cases hkl : k < ids.length
            · have hklz : (k : Int) < (ids.length : Int) := by omega
              obtain ⟨r3, o3, hv3, hr3, hc3⟩ := SK.out.up3.introw.at hkl
              subst hv3
              obtain ⟨fl1, fl2⟩ := XI.out.2.2.2.1.at' k hkl
              have hwf : Wf (ids.getD k 0) := by
                have h1 := XI.out.1.fs _ (by rw [fl1]; rfl)
                have h2 := XI.out.1.pr
                exact Wf.of_lt (by omega) (by omega)
              have g1 : x.get d (ids.getD k 0) 2 = ((sAt puts k, 0), d) := by unfold TX.get; rw [fl1]; rfl
              have g2 : x.get d (ids.getD k 0) 1 = ((ByteArray.empty, 3), d) := by unfold TX.get; rw [fl1]; rfl
              have hxl := XI.out.1.len
              have hxp := XI.out.1.pr
              have HCK : Hid (∀ u, Sep w.heap.size w u (Tx t f x :: File f b d :: FreeR (.slice ua un uc) used :: RowR 3 (.slice (some ⟨r3, o3, none⟩) ids.length ic) (ids.map (Value.int .i64)) :: RowR 9 (.slice pa ids.length pc) (puts.map Value.string) :: []) → u.cell? ⟨r3, o3 + k, none⟩ = some (.int .i64 (ids.getD k 0)) ∧ ∃ pr, pa = some ⟨pr, 0, none⟩ ∧ u.cell? ⟨pr, k, none⟩ = some (.string (sAt puts k))) := fun u hu => by
                obtain ⟨r4, o4, hv4, _, hc4⟩ := hu.up3.introw.at hkl
                cases hv4
                refine ⟨hc4, ?_⟩
                obtain ⟨r5, c5, e5, _, _, hc5, _⟩ := hu.up4.cell (j := k) (by rw [List.length_map, XI.out.2.2.2.1.len]; exact hkl)
                have e6 : pa = some ⟨r5, 0, none⟩ := by injection e5
                exact ⟨r5, e6, by rw [hc5]; simp [sAt, List.getD_eq_getElem?_getD, show k < puts.length by rw [XI.out.2.2.2.1.len]; exact hkl]⟩
              have G1 : Hid _ := tget TT.out SK.out hwf 2 XI.out.1.p2 (by omega)
              rw [g1, show ((2 : UInt8).toNat : Int) = 2 from rfl] at G1
              have G2 : Hid (∀ u, Sep w.heap.size w u (Tx t f x :: File f b d :: FreeR (.slice ua un uc) used :: RowR 3 (.slice (some ⟨r3, o3, none⟩) ids.length ic) (ids.map (Value.int .i64)) :: RowR 9 (.slice pa ids.length pc) (puts.map Value.string) :: []) → _) := fun u hu => tget TT.out hu hwf 1 XI.out.1.p2 (by omega)
              rw [g2, show ((1 : UInt8).toNat : Int) = 1 from rfl] at G2
              generalize ids.getD k 0 = id at *
              generalize sAt puts k = bk at *
              clear g1 g2 fl1 fl2 hwf hxl hxp
              go_wp2_with fail
              refine Calls.mono G1.out ?_
              rintro e w10 ⟨rfl, s10⟩
              have m1 := (HCK.out _ s10).1
              have C11 : Hid _ := G2.out _ s10
              clear G1 G2 s10 SK hc3 hr3
              go_wp2_with fail
              refine Calls.mono C11.out ?_
              rintro e w11 ⟨rfl, s11⟩
              obtain ⟨m2, pr, hpr, m3⟩ := HCK.out _ s11
              subst hpr
              have S11 : Hid _ := s11
              clear C11 s11 m1 m2 HCK
              go_wp2
              go_roundg (ids.length - (k + 1))
              case measure => omega
              case rel => exact ⟨k + 1, by go_num, by omega, Nat.le_refl _, S11⟩
            · have hklz : ¬ (k : Int) < (ids.length : Int) := by omega
              obtain rfl : k = ids.length := by omega
              have CW1 : Hid _ := writes_s SK.out.up1.part
              rw [KD.out.2.2.1] at CW1
              have HFM : ∀ q, (x.fresh q).isSome = true → 2 ≤ q ∧ q < 16 ∧ ∃ s, x.fresh q = some ⟨true, 2, s⟩ ∧ s.size ≤ 240 := fun q hq => by
                have h1 := XI.out.1.fs q hq
                have h2 := XI.out.1.pr
                exact ⟨h1.1, by omega, XI.out.2.2.2.1.mem ((XI.out.2.2.1.me q).2 hq)⟩
              have CFl : Hid _ := tflush TT.out SK.out (by have := XI.out.2.1; omega) (by have := KD.out.2.2.2.1; omega) (fun q c hq => by
                obtain ⟨_, _, s, e1, e2⟩ := HFM q (by rw [hq]; rfl)
                rw [hq] at e1
                cases e1
                exact e2) (fun q hq => by
                obtain ⟨a1, a2, _⟩ := HFM q hq
                exact Wf.of_lt (by omega) (by omega))
              have HM : Hid (∀ q, (x.fresh q).isSome = true → 2 ≤ q ∧ q < 16 ∧ ∃ s, x.fresh q = some ⟨true, 2, s⟩ ∧ s.size ≤ 240) := HFM
              clear HFM
              go_wp2_with fail
              refine Calls.mono CW1.out ?_
              rintro e w12 ⟨rfl, rfl⟩
              clear CW1 SK
              go_wp2_with fail
              refine Calls.mono CFl.out ?_
              rintro e w13 ⟨L, hL, _, rfl, s13⟩
              obtain ⟨F1, F2, F3, F4, F5⟩ := flush_up (g := x.fresh) (n := 16) (by decide) L d KD.out.1 KD.out.2.1 (fun q hq => HM.out q ((hL.2 q).1 hq)) (hL.1.imp fun h => by omega) (by rw [KD.out.2.2.1]; decide) (by
                have h1 := XI.out.2.2.1.taken hL
                rw [KD.out.2.2.1, h1]; omega)
              have hLl := XI.out.2.2.1.taken hL
              have hLm : ∀ q, q ∈ L ↔ q ∈ ids := fun q => by rw [hL.2, XI.out.2.2.1.me]
              generalize flushL x.fresh L d = RR at *
              obtain ⟨er, d3⟩ := RR
              simp only at F1 F2 F3 F4 F5 s13
              subst F1
              rw [KD.out.2.2.1, hLl] at F4
              have K3 : Hid (Up 16 d3 ∧ ∀ j : Nat, d3.now j = if (j : Int) ∈ ids then pageS j 2 (bodyOf x.fresh j) else d.now j) := ⟨F2, fun j => by rw [F5 j]; simp only [hLm]⟩
              have CW2 : Hid _ := writes_s s13.up1.part
              rw [F4] at CW2
              have CP2 : Hid _ := pending_s s13.up1.part
              rw [F3] at CP2
              have S13 : Hid (Sep w.heap.size w w13 (Tx t f x :: File f b d3 :: FreeR (.slice ua un uc) used :: RowR 3 (.slice ia ids.length ic) (ids.map (Value.int .i64)) :: RowR 9 (.slice pa ids.length pc) (puts.map Value.string) :: [])) := s13
              clear CFl s13 F2 F3 F4 F5 hLl hLm hL
              have hidz : (ids.length : Int) ≤ 30 := by omega
              simp only [List.length_nil] at CP2
              go_wp2_with fail
              refine Calls.mono CW2.out ?_
              rintro e w14 ⟨rfl, rfl⟩
              clear CW2
              go_wp2_with fail
              refine Calls.mono CP2.out ?_
              rintro e w14 ⟨rfl, rfl⟩
              clear CP2
              go_wp2
              go_loopg [25] ids.length (fun kx s25 wr => ∃ (k : Nat) (dd : Dk), s25 = .int .i64 k ∧ k ≤ ids.length ∧ ids.length - k ≤ kx ∧ Hid (Sep w.heap.size w wr (Tx t f x :: File f b dd :: FreeR (.slice ua un uc) used :: RowR 3 (.slice ia ids.length ic) (ids.map (Value.int .i64)) :: RowR 9 (.slice pa ids.length pc) (puts.map Value.string) :: [])) ∧ Hid (Up 16 dd ∧ ∀ j, dd.now j = d3.now j))
              case atStart => exact ⟨0, d3, rfl, Nat.zero_le _, Nat.le_refl _, S13, K3.out.1, fun _ => rfl⟩
              case round =>
                obtain ⟨k, dd, rfl, hk2, hkk, SK, KK⟩ := hrel
                clear S13
                by_cases hkl : k < ids.length
                · have hklz : (k : Int) < (ids.length : Int) := by omega
                  obtain ⟨r3, o3, hv3, hr3, hc3⟩ := SK.out.up3.introw.at hkl
                  subst hv3
                  obtain ⟨fl1, fl2⟩ := XI.out.2.2.2.1.at' k hkl
                  obtain ⟨a1, a2, _⟩ := HM.out (ids.getD k 0) (by rw [fl1]; rfl)
                  obtain ⟨jn, hjn⟩ : ∃ jn : Nat, ids.getD k 0 = (jn : Int) := ⟨(ids.getD k 0).toNat, by omega⟩
                  obtain ⟨u1, u2, u3, _, _⟩ := KK.out.1.rd jn 2 (by omega) (by omega)
                  have hnow : dd.now jn = pageS jn 2 (sAt puts k) := by
                    rw [KK.out.2 jn, K3.out.2 jn, ← hjn, if_pos (getD_mem hkl)]
                    unfold bodyOf
                    rw [fl1]; rfl
                  rw [hnow, open_page jn (by omega) 2 _ fl2] at u1
                  obtain ⟨pr, hpr, hcp⟩ : ∃ pr, pa = some ⟨pr, 0, none⟩ ∧ ∀ u dx, Sep w.heap.size w u (Tx t f x :: File f b dx :: FreeR (.slice ua un uc) used :: RowR 3 (.slice (some ⟨r3, o3, none⟩) ids.length ic) (ids.map (Value.int .i64)) :: RowR 9 (.slice pa ids.length pc) (puts.map Value.string) :: []) → u.cell? ⟨pr, k, none⟩ = some (.string (sAt puts k)) := by
                    have hlk : k < puts.length := by rw [XI.out.2.2.2.1.len]; exact hkl
                    obtain ⟨r5, c5, e5, _⟩ := SK.out.up4.cell (j := k) (by rw [List.length_map]; exact hlk)
                    have e6 : pa = some ⟨r5, 0, none⟩ := by injection e5
                    refine ⟨r5, e6, fun u dx hu => ?_⟩
                    obtain ⟨r7, c7, e7, _, _, hc7, _⟩ := hu.up4.cell (j := k) (by rw [List.length_map]; exact hlk)
                    have e8 : pa = some ⟨r7, 0, none⟩ := by injection e7
                    rw [e6] at e8
                    cases e8
                    rw [hc7]; simp [sAt, List.getD_eq_getElem?_getD, hlk]
                  subst hpr
                  have HCP : Hid _ := hcp
                  have CRd : Hid _ := read_f TT.out SK.out.up1 (ids.getD k 0) 2
                  rw [hjn] at CRd hc3
                  rw [u1, show ((2 : UInt8).toNat : Int) = 2 from rfl] at CRd
                  have KK2 : Hid (Up 16 (dd.rd jn 2).2 ∧ ∀ j, (dd.rd jn 2).2.now j = d3.now j) := ⟨u2, fun j => (u3 j).trans (KK.out.2 j)⟩
                  generalize (dd.rd jn 2).2 = dd2 at *
                  clear hcp fl1 fl2 hnow u1 u2 u3 hjn KK
                  generalize sAt puts k = bk at *
                  go_wp2_with fail
                  refine Calls.mono CRd.out ?_
                  rintro e w15 ⟨rfl, s15⟩
                  have S15 : Hid (Sep w.heap.size w w15 (Tx t f x :: File f b dd2 :: FreeR (.slice ua un uc) used :: RowR 3 (.slice (some ⟨r3, o3, none⟩) ids.length ic) (ids.map (Value.int .i64)) :: RowR 9 (.slice (some ⟨pr, 0, none⟩) ids.length pc) (puts.map Value.string) :: [])) := s15.up1
                  have m5 := HCP.out _ _ S15.out
                  clear CRd s15 SK hc3 hr3 HCP
                  go_wp2
                  go_roundg (ids.length - (k + 1))
                  case measure => omega
                  case rel => exact ⟨k + 1, dd2, by go_num, by omega, Nat.le_refl _, S15, KK2⟩
                · have hklz : ¬ (k : Int) < (ids.length : Int) := by omega
                  obtain rfl : k = ids.length := by omega
                  have KU : Hid (Up 16 dd ∧ ∀ j : Nat, InR used j → dd.now j = pageS j 1 (bodyI j)) := ⟨KK.out.1, fun j hj => by
                    have h1 := XI.out.2.2.1.ur _ hj
                    have h2 := XI.out.1.pr
                    have h3 : ¬ (j : Int) ∈ ids := fun e => by
                      have := (XI.out.2.2.1.uf _ hj).2
                      rw [(XI.out.2.2.1.me _).1 e] at this
                      cases this
                    rw [KK.out.2 j, K3.out.2 j, if_neg h3]
                    exact KD.out.2.2.2.2 j (by omega) (by omega)⟩
                  clear KK
                  go_wp2
                  go_loopg [28] 16 (fun kx s28 wr => ∃ (i : Nat) (dd : Dk), s28 = .int .i64 i ∧ 2 ≤ i ∧ i ≤ 16 ∧ 16 - i ≤ kx ∧ Hid (Sep w.heap.size w wr (Tx t f x :: File f b dd :: FreeR (.slice ua un uc) used :: RowR 3 (.slice ia ids.length ic) (ids.map (Value.int .i64)) :: RowR 9 (.slice pa ids.length pc) (puts.map Value.string) :: [])) ∧ Hid (Up 16 dd ∧ ∀ j : Nat, InR used j → dd.now j = pageS j 1 (bodyI j)))
                  case atStart => exact ⟨2, dd, rfl, Nat.le_refl _, by decide, by decide, SK, KU⟩
                  case round =>
                    obtain ⟨i, dd, rfl, hi2, hi16, hki, SU, KU2⟩ := hrel
                    clear SK KU
                    by_cases hil : i < 16
                    · have hilz : (i : Int) < 16 := by omega
                      have hi2z : (2 : Int) ≤ (i : Int) := by omega
                      have CH : Hid _ := has_any _ _ (i : Int) wr SU.out.up2.free.row (by have := HUl.out; omega)
                      by_cases hu : InR used i
                      · rw [hasB_yes hu] at CH
                        have hbs : (bodyI i).size ≤ 240 := by show 1 ≤ 240; decide
                        obtain ⟨u1, u2, u3, _, _⟩ := KU2.out.1.rd i 1 hi2 hil
                        rw [KU2.out.2 i hu, open_page i (by omega) 1 _ hbs] at u1
                        have h1 := XI.out.2.2.1.ur _ hu
                        have h2 := XI.out.2.2.1.uf _ hu
                        have h3 : x.fresh (i : Int) = none := by cases hh : x.fresh (i : Int) with
                          | none => rfl
                          | some c => rw [hh] at h2; simp at h2
                        have CR1 : Hid (∀ u, Sep w.heap.size w u (Tx t f x :: File f b dd :: FreeR (.slice ua un uc) used :: RowR 3 (.slice ia ids.length ic) (ids.map (Value.int .i64)) :: RowR 9 (.slice pa ids.length pc) (puts.map Value.string) :: []) → _) := fun u hu => read_f TT.out hu.up1 (i : Int) 1
                        rw [u1, show ((1 : UInt8).toNat : Int) = 1 from rfl] at CR1
                        obtain ⟨dd1, hdd1⟩ : ∃ z, (dd.rd (i : Int) 1).2 = z := ⟨_, rfl⟩
                        rw [hdd1] at CR1 u2 u3
                        obtain ⟨v1, v2, v3, _, _⟩ := u2.rd i 1 hi2 hil
                        rw [u3 i, KU2.out.2 i hu, open_page i (by omega) 1 _ hbs] at v1
                        have hxl := XI.out.1.len
                        have hxp := XI.out.1.pr
                        have g1 : x.get dd1 (i : Int) 1 = ((bodyI i, 0), (dd1.rd (i : Int) 1).2) := by
                          unfold TX.get
                          rw [h3]
                          have : ¬ ((x.pages : Int) ≤ (i : Int) ∨ hasB x.free (i : Int) = true) := by
                            rintro (e | e)
                            · omega
                            · exact h2.1 ((hasB_iff _ _).1 e)
                          simp only [if_neg this]
                          unfold corr
                          rw [v1]
                          rfl
                        have CG1 : Hid (∀ u, Sep w.heap.size w u (Tx t f x :: File f b dd1 :: FreeR (.slice ua un uc) used :: RowR 3 (.slice ia ids.length ic) (ids.map (Value.int .i64)) :: RowR 9 (.slice pa ids.length pc) (puts.map Value.string) :: []) → _) := fun u hu => tget TT.out hu (Wf.of_lt (n := (i : Int)) (by omega) (by omega)) 1 XI.out.1.p2 (by omega)
                        rw [g1, show ((1 : UInt8).toNat : Int) = 1 from rfl] at CG1
                        have KU3 : Hid (Up 16 (dd1.rd (i : Int) 1).2 ∧ ∀ j : Nat, InR used j → (dd1.rd (i : Int) 1).2.now j = pageS j 1 (bodyI j)) := ⟨v2, fun j hj => (v3 j).trans ((u3 j).trans (KU2.out.2 j hj))⟩
                        generalize (dd1.rd (i : Int) 1).2 = dd2 at *
                        have HCV : Hid (∀ u : World, Sem.run Tryz.prog (convert 66 9 (.slice (some ⟨u.heap.size, 0, none⟩) 1 1)) (u.alloc (.cells #[.int .u8 (i : Int)] 5)) = .ok (.string (bodyI i)) (u.alloc (.cells #[.int .u8 (i : Int)] 5))) := fun u => conv_new [UInt8.ofNat i] #[.int .u8 (i : Int)] u 1 1 (byteI hil) rfl
                        generalize bodyI i = bi at CR1 CG1 HCV
                        clear u1 u2 u3 v1 v2 v3 g1 h1 h2 h3 hbs hdd1 KU2
                        go_wp2_with fail
                        refine Calls.mono CH.out ?_
                        rintro e w16 ⟨rfl, b16⟩
                        have C17 : Hid _ := CR1.out w16 (SU.out.below b16)
                        clear CH b16 SU CR1
                        go_wp2_with fail
                        refine Calls.mono C17.out ?_
                        rintro e w17 ⟨rfl, s17⟩
                        have C18 : Hid _ := CG1.out w17 s17.up1
                        clear C17 s17 CG1
                        go_wp2_with fail
                        refine Calls.mono C18.out ?_
                        rintro e w18 ⟨rfl, s18⟩
                        have S18 : Hid (Sep w.heap.size w w18 (Tx t f x :: File f b dd2 :: FreeR (.slice ua un uc) used :: RowR 3 (.slice ia ids.length ic) (ids.map (Value.int .i64)) :: RowR 9 (.slice pa ids.length pc) (puts.map Value.string) :: [])) := s18
                        have hcv := HCV.out w18
                        have S19 : Hid (Sep w.heap.size w (w18.alloc (.cells #[.int .u8 (i : Int)] 5)) (Tx t f x :: File f b dd2 :: FreeR (.slice ua un uc) used :: RowR 3 (.slice ia ids.length ic) (ids.map (Value.int .i64)) :: RowR 9 (.slice pa ids.length pc) (puts.map Value.string) :: [])) := s18.alloc _
                        clear C18 s18 HCV S18
                        go_wp2
                        go_roundg (16 - (i + 1))
                        case measure => omega
                        case rel => exact ⟨i + 1, dd2, by go_num, by omega, by omega, Nat.le_refl _, S19, KU3⟩
                      · rw [hasB_no hu] at CH
                        go_wp2_with fail
                        refine Calls.mono CH.out ?_
                        rintro e w16 ⟨rfl, b16⟩
                        have S16 : Hid (Sep w.heap.size w w16 (Tx t f x :: File f b dd :: FreeR (.slice ua un uc) used :: RowR 3 (.slice ia ids.length ic) (ids.map (Value.int .i64)) :: RowR 9 (.slice pa ids.length pc) (puts.map Value.string) :: [])) := SU.out.below b16
                        clear CH b16 SU
                        go_wp2
                        go_roundg (16 - (i + 1))
                        case measure => omega
                        case rel => exact ⟨i + 1, dd, by go_num, by omega, by omega, Nat.le_refl _, S16, KU2⟩
                    · have hilz : ¬ (i : Int) < 16 := by omega
                      obtain rfl : i = 16 := by omega
                      have BU : Hid (Below w.heap.size w wr) := SU.out.bel
                      clear SU KU2
                      go_wp2
                      go_ret
                      exact ⟨rfl, BU.out⟩


end Go.Proofs.YtnngfkjbbedkpaaGreatDoor
