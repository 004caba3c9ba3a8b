/-
  The walks of package chain's load and links; more of things that lie apart.
-/
import Derived.Test.YtnjnggjbeklmpaaGreatDoorChRow
import Derived.Test.YtnjnggjbeklmpaaGreatDoorBRunsA
namespace Go.Proofs.YtnjnggjbeklmpaaGreatDoor
open Go.Shelf Go.RowKit Go.Lib Go.Sort
set_option linter.unusedVariables false

/-- What load answers. -/
def Dk.ld (d : Dk) (id : Int) : Int × List Pr × Int := if (d.rd id 3).1.2 = 0 then prs (d.rd id 3).1.1.data.toList else (0, [], if (d.rd id 3).1.2 = 40 then 3 else (d.rd id 3).1.2)

/-- A page's cells. -/
def linkO (nx : Int) (v : Value) (er : Int) : Obj := .cells (#[.int .i64 nx] ++ v.cells ++ #[.int .i64 er]) 84 (0, 0)
theorem rd_size (d : Dk) (ok : d.Ok) (id : Int) : (d.rd id 3).1.1.size ≤ maxLen := by
  unfold Dk.rd
  split
  · split
    · unfold openE
      split
      · rename_i h
        have hz : (opn id (d.get id).1.1.data.toList).2.1.length ≤ 240 := by
          rcases opn_cases id (d.get id).1.1.data.toList with ⟨k, b, h1, h2, h3⟩ | ⟨_, h3⟩
          · rw [h3]
            exact (sealE_zero.1 h1).1
          · rw [h3]; exact Nat.zero_le _
        show (⟨(opn id (d.get id).1.1.data.toList).2.1.toArray⟩ : ByteArray).size ≤ maxLen
        rw [ba_size]
        unfold maxLen
        omega
      · unfold maxLen; simp
    · unfold maxLen; simp
  · unfold maxLen; simp

section
variable {B : Nat} {w0 w w' : World} {f b : Nat} {d : Dk} {l : List Res} {q : Nat} {cs : Array Value} {t : TypeId}
theorem Sep.blkSet (h : Sep B w0 w (Blk q (.cells cs t) :: l)) (i : Nat) (v : Value) : Sep B w0 (w.setCell ⟨q, i, none⟩ v) (Blk q (.cells (cs.setIfInBounds i v) t) :: l) :=
  h.step (good_blk _ _) fun X hX => ⟨X, ⟨Cl.set hX.1 i v, hX.2⟩, Turn.setCell w ((hX.2 q).2 rfl) v, fun k hk => .inl hk⟩
theorem Sep.blkSet3 {x0 x1 x2 : Value} (h : Sep B w0 w (Blk q (.cells #[x0, x1, x2] t) :: l)) (a b c : Value) : Sep B w0 (((w.setCell ⟨q, 0, none⟩ a).setCell ⟨q, 1, none⟩ b).setCell ⟨q, 2, none⟩ c) (Blk q (.cells #[a, b, c] t) :: l) :=
  ((h.blkSet 0 a).blkSet 1 b).blkSet 2 c
theorem Sep.cl (h : Sep B w0 w (Blk q (.cells cs t) :: l)) : Cl w q cs t := h.blk
theorem Cl.three {a b c : Value} (h : Cl w q #[a, b, c] t) : w.cell? ⟨q, 0, none⟩ = some a ∧ w.cell? ⟨q, 1, none⟩ = some b ∧ w.cell? ⟨q, 2, none⟩ = some c ∧ w.frozen? ⟨q, 0, none⟩ = false ∧ w.frozen? ⟨q, 1, none⟩ = false ∧ w.frozen? ⟨q, 2, none⟩ = false ∧ q < w.heap.size :=
  ⟨h.cell 0, h.cell 1, h.cell 2, h.frozen 0, h.frozen 1, h.frozen 2, h.lt⟩

set_option maxHeartbeats 1000000 in
set_option maxRecDepth 100000 in
theorem load_f (T : Tabs B w0) (h : Sep B w0 w (File f b d :: l)) (id : Int) :
    Calls Tryz.prog 54 #[ptr f, .int .i64 id] w fun e w' => ∃ ao n c, e = .returned (.agg #[.int .i64 (d.ld id).1, .slice ao n c, .int .i64 (d.ld id).2.2]) ∧ Sep B w0 w' (RunR (.slice ao n c) (d.ld id).2.1 :: File f b (d.rd id 3).2 :: l) := by
  have CR : Hid _ := read_f T (h.addBlk (.cells #[.int .i64 0, .slice none 0 0, .int .i64 0] 84)).up1 id 3
  rw [show ((3 : UInt8).toNat : Int) = 3 from rfl] at CR
  have hz := rd_size d h.fok id
  have EL : Hid (d.ld id = if (d.rd id 3).1.2 = 0 then prs (d.rd id 3).1.1.data.toList else (0, [], if (d.rd id 3).1.2 = 40 then 3 else (d.rd id 3).1.2)) := rfl
  generalize d.ld id = R at *
  generalize d.rd id 3 = q3 at *
  obtain ⟨⟨s, er⟩, d2⟩ := q3
  dsimp only at CR hz EL
  clear h
  by_cases he : er = 0
  · subst he
    have CP : Hid (∀ u, _) := fun u => parse_any s u hz
    rw [if_pos rfl] at EL
    rw [← EL.out] at CP
    obtain ⟨nx, ps, e3⟩ := R
    dsimp only at CP
    clear hz EL
    go_enter Tryz.func54, Tryz.ntmps54
    go_wp2_with fail
    refine Calls.mono CR.out ?_
    rintro e w2 ⟨rfl, s2⟩
    have S2 : Hid (Sep B w0 w2 (File f b d2 :: Blk w.heap.size (.cells #[.int .i64 0, .slice none 0 0, .int .i64 0] 84) :: l)) := s2
    clear CR s2
    generalize w.heap.size = q at *
    go_wp2_with fail
    refine Calls.mono (CP.out w2) ?_
    rintro e w3 ⟨ao, n, c, rfl, o3, b3⟩
    have S3 : Hid (Sep B w0 w3 (Blk q (.cells #[.int .i64 0, .slice none 0 0, .int .i64 0] 84) :: RunR (.slice ao n c) ps :: File f b d2 :: l)) := (S2.out.addRun b3 o3).up2
    clear CP o3 b3 S2
    obtain ⟨c0, c1, c2, g0, g1, g2, hq⟩ := S3.out.cl.three
    have S4 : Hid (Sep B w0 (((w3.setCell ⟨q, 0, none⟩ (.int .i64 nx)).setCell ⟨q, 1, none⟩ (.slice ao n c)).setCell ⟨q, 2, none⟩ (.int .i64 e3)) (Blk q (.cells #[.int .i64 nx, .slice ao n c, .int .i64 e3] 84) :: RunR (.slice ao n c) ps :: File f b d2 :: l)) := S3.out.blkSet3 _ _ _
    clear S3
    go_wp2
    (try simp only [Exit.inBlock, Exit.then])
    generalize ((w3.setCell ⟨q, 0, none⟩ (.int .i64 nx)).setCell ⟨q, 1, none⟩ (.slice ao n c)).setCell ⟨q, 2, none⟩ (.int .i64 e3) = w4 at *
    clear c0 c1 c2 g0 g1 g2 hq
    obtain ⟨c0, c1, c2, g0, g1, g2, hq⟩ := S4.out.cl.three
    refine bodyPost_ret (v := .agg #[.int .i64 nx, .slice ao n c, .int .i64 e3]) ?_ rfl ⟨ao, n, c, rfl, S4.out.drop⟩
    rw [results_cell rfl]
    go_simp
  · rw [if_neg he] at EL
    by_cases h40 : er = 40
    · subst h40
      rw [if_pos rfl] at EL
      cases EL.out
      clear hz EL he
      go_enter Tryz.func54, Tryz.ntmps54
      go_wp2_with fail
      refine Calls.mono CR.out ?_
      rintro e w2 ⟨rfl, s2⟩
      have S2 : Hid (Sep B w0 w2 (Blk w.heap.size (.cells #[.int .i64 0, .slice none 0 0, .int .i64 0] 84) :: File f b d2 :: l)) := s2.up1
      clear CR s2
      generalize w.heap.size = q at *
      obtain ⟨c0, c1, c2, g0, g1, g2, hq⟩ := S2.out.cl.three
      have S4 : Hid (Sep B w0 (((w2.setCell ⟨q, 0, none⟩ (.int .i64 0)).setCell ⟨q, 1, none⟩ (.slice none 0 0)).setCell ⟨q, 2, none⟩ (.int .i64 3)) (Blk q (.cells #[.int .i64 0, .slice none 0 0, .int .i64 3] 84) :: File f b d2 :: l)) := S2.out.blkSet3 _ _ _
      clear S2
      go_wp2
      (try simp only [Exit.inBlock, Exit.then])
      generalize ((w2.setCell ⟨q, 0, none⟩ (.int .i64 0)).setCell ⟨q, 1, none⟩ (.slice none 0 0)).setCell ⟨q, 2, none⟩ (.int .i64 3) = w4 at *
      clear c0 c1 c2 g0 g1 g2 hq
      obtain ⟨c0, c1, c2, g0, g1, g2, hq⟩ := S4.out.cl.three
      refine bodyPost_ret (v := .agg #[.int .i64 0, .slice none 0 0, .int .i64 3]) ?_ rfl ⟨none, 0, 0, rfl, S4.out.drop.addRun (Below.refl _ _) (OwnP.empty _ _)⟩
      rw [results_cell rfl]
      go_simp
    · rw [if_neg h40] at EL
      cases EL.out
      have n0 : (er == 0) = false := beq_eq_false_iff_ne.2 he
      have n40 : (er == 40) = false := beq_eq_false_iff_ne.2 h40
      clear hz EL he h40
      go_enter Tryz.func54, Tryz.ntmps54
      go_wp2_with fail
      refine Calls.mono CR.out ?_
      rintro e w2 ⟨rfl, s2⟩
      have S2 : Hid (Sep B w0 w2 (Blk w.heap.size (.cells #[.int .i64 0, .slice none 0 0, .int .i64 0] 84) :: File f b d2 :: l)) := s2.up1
      clear CR s2
      generalize w.heap.size = q at *
      obtain ⟨c0, c1, c2, g0, g1, g2, hq⟩ := S2.out.cl.three
      have S4 : Hid (Sep B w0 (((w2.setCell ⟨q, 0, none⟩ (.int .i64 0)).setCell ⟨q, 1, none⟩ (.slice none 0 0)).setCell ⟨q, 2, none⟩ (.int .i64 er)) (Blk q (.cells #[.int .i64 0, .slice none 0 0, .int .i64 er] 84) :: File f b d2 :: l)) := S2.out.blkSet3 _ _ _
      clear S2
      go_wp2
      (try simp only [Exit.inBlock, Exit.then])
      generalize ((w2.setCell ⟨q, 0, none⟩ (.int .i64 0)).setCell ⟨q, 1, none⟩ (.slice none 0 0)).setCell ⟨q, 2, none⟩ (.int .i64 er) = w4 at *
      clear c0 c1 c2 g0 g1 g2 hq
      obtain ⟨c0, c1, c2, g0, g1, g2, hq⟩ := S4.out.cl.three
      refine bodyPost_ret (v := .agg #[.int .i64 0, .slice none 0 0, .int .i64 er]) ?_ rfl ⟨none, 0, 0, rfl, S4.out.drop.addRun (Below.refl _ _) (OwnP.empty _ _)⟩
      rw [results_cell rfl]
      go_simp

set_option maxHeartbeats 400000 in
theorem links_c (head : Int) (w : World) : Calls Tryz.prog 31 #[ptr f, .int .i64 head] w fun e w' => e = .returned (.func (.func 53) #[] #[ptr (w.heap.size + 1), ptr w.heap.size]) ∧ w' = (w.alloc (.cells #[ptr f] 26)).alloc (.cells #[.int .i64 head] 3) := by
  go_enter Tryz.func31, Tryz.ntmps31
  go_wp2
  go_ret
  exact ⟨rfl, rfl⟩
end

end Go.Proofs.YtnjnggjbeklmpaaGreatDoor
