/-
  The walks of package alloc's New, takeBehind, Alloc, Drop, Put, Get.
-/
import Derived.Test.YtnngfkjbbedkpaaGreatDoorAlOps
namespace Go.Proofs.YtnngfkjbbedkpaaGreatDoor
open Go.Shelf Go.RowKit Go.Lib Go.Sort
open Go.ChangeMaps (setBlock)
set_option linter.unusedVariables false

section
variable {B : Nat} {w0 w : World} {l : List Res} {t f b : Nat} {x : TX} {d : Dk}

def TX.behind (x : TX) (room : Nat) : TX := if room ≤ x.pages then x else ⟨x.free, x.pages + 1, x.fresh, x.cnt⟩
set_option maxHeartbeats 1000000 in
theorem takeBehind_t (h : Sep B w0 w (Tx t f x :: File f b d :: l)) (h2 : 2 ≤ x.pages) (hp : x.pages ≤ 20000) : Calls Tryz.prog 47 #[ptr t] w fun e w' => e = .returned (.tuple #[.int .i64 (if d.room ≤ x.pages then 0 else (x.pages : Int)), .bool (!decide (d.room ≤ x.pages))]) ∧ Sep B w0 w' (Tx t f (x.behind d.room) :: File f b d :: l) := by
  have CP : Hid _ := tpages h h2
  have CR : Hid _ := room_f h.up1
  have HS : Hid (Sep B w0 w (Tx t f x :: File f b d :: l)) := h
  obtain ⟨v, m, h⟩ := h.txOpen
  obtain ⟨ht, q0, q1, q2, q3, qf⟩ := h.txCells
  have q4 := qf 2
  unfold TX.behind
  by_cases hr : d.room ≤ x.pages
  · have hrz : (d.room : Int) ≤ (x.pages : Int) := by omega
    simp only [hr, if_true, decide_true, Bool.not_true]
    clear h hr
    generalize d.room = rm at *
    generalize x.pages = p at *
    go_enter Tryz.func47, Tryz.ntmps47
    go_wp2_with fail
    refine Calls.mono CP.out ?_
    rintro e w1 ⟨rfl, rfl⟩
    clear CP
    go_wp2_with fail
    refine Calls.mono CR.out ?_
    rintro e w1 ⟨rfl, rfl⟩
    clear CR
    go_wp2
    go_ret2
    exact ⟨rfl, HS.out⟩
  · have hrz : ¬ (d.room : Int) ≤ (x.pages : Int) := by omega
    simp only [hr, if_false, decide_false, Bool.not_false]
    have S1 : Hid (Sep B w0 (w.setCell ⟨t, 2, none⟩ (.int .i64 ((x.pages : Int) + 1))) (Tx t f ⟨x.free, x.pages + 1, x.fresh, x.cnt⟩ :: File f b d :: l)) := by
      have h1 := h.blkPut (i := 2) (.int .i64 ((x.pages : Int) + 1))
      refine Sep.txShut (m := m) (v := v) (x := ⟨x.free, x.pages + 1, x.fresh, x.cnt⟩) ?_
      simpa [txO] using h1
    have hw : wrap64 ((x.pages : Int) + 1) = (x.pages : Int) + 1 := w64 (by omega) (by omega)
    clear h hr HS
    generalize d.room = rm at *
    generalize (x.pages : Int) = p at *
    go_enter Tryz.func47, Tryz.ntmps47
    go_wp2_with fail
    refine Calls.mono CP.out ?_
    rintro e w1 ⟨rfl, rfl⟩
    clear CP
    go_wp2_with fail
    refine Calls.mono CR.out ?_
    rintro e w1 ⟨rfl, rfl⟩
    clear CR
    go_wp2
    go_ret2
    exact ⟨rfl, S1.out⟩

/-- What is there behind the choice of a page: its content is none. -/
theorem Sep.txPut (h : Sep B w0 w (Tx t f x :: l)) {k : Int} (hk : Wf k) (c : C3) (hn : x.cnt < 1000000) : ∃ m w', w.cell? ⟨t, 3, none⟩ = some (.map (some m)) ∧ t < w.heap.size ∧ (Instr.mapUpdate 83 (.map (some m)) (.int .i64 k) (cV c)).run Tryz.prog w = .ok () w' ∧ Sep B w0 w' (Tx t f ⟨x.free, x.pages, putF x.fresh k c, x.cnt + 1⟩ :: l) := by
  obtain ⟨v, m, h⟩ := h.txOpen
  obtain ⟨ht, q0, q1, q2, q3, qf⟩ := h.txCells
  obtain ⟨w', hr, h'⟩ := h.up2.mapPut hk c hn
  exact ⟨m, w', q3, ht, hr, Sep.txShut (x := ⟨x.free, x.pages, putF x.fresh k c, x.cnt + 1⟩) h'.dn2⟩

theorem Wf.of_lt {n : Int} (h0 : 0 ≤ n) (h1 : n ≤ 4294967295) : Wf n := ⟨by omega, by omega⟩

set_option maxRecDepth 100000 in
set_option maxHeartbeats 1000000 in
theorem talloc (h : Sep B w0 w (Tx t f x :: File f b d :: l)) (ok : x.Ok d.room) (hr : d.room ≤ 16384) (hn : x.cnt < 1000000) : Calls Tryz.prog 11 #[ptr t] w fun e w' => e = .returned (.tuple #[.int .i64 (x.alloc d.room).1.1, .int .i64 (x.alloc d.room).1.2]) ∧ Sep B w0 w' (Tx t f (x.alloc d.room).2 :: File f b d :: l) := by
  have C : Hid _ := given_t (t := t) w
  have CL : Hid _ := takeLeast_t h ok.cn
  obtain ⟨fr, p, g, c⟩ := x
  cases fr with
  | cons r s =>
    have hk : Wf r.1 := Wf.of_lt (cn_cons.1 ok.cn).1.1 (by have := (cn_cons.1 ok.cn).1; omega)
    have K : Hid (∀ u, Sep B w0 u (Tx t f ⟨dropF (r :: s), p, g, c⟩ :: File f b d :: l) → ∃ m w', u.cell? ⟨t, 3, none⟩ = some (.map (some m)) ∧ t < u.heap.size ∧ (Instr.mapUpdate 83 (.map (some m)) (.int .i64 r.1) (.agg #[.bool false, .int .u8 0, .string ⟨#[]⟩])).run Tryz.prog u = .ok () w' ∧ Sep B w0 w' (Tx t f ⟨dropF (r :: s), p, putF g r.1 c0, c + 1⟩ :: File f b d :: l)) := fun u hu => hu.txPut hk c0 hn
    simp only [TX.alloc]
    have e1 : fstN (r :: s) = r.1 := rfl
    have e2 : fstB (r :: s) = true := rfl
    simp only [e1, e2] at CL
    clear h ok hk e1 e2
    generalize r.1 = id at *
    generalize dropF (r :: s) = fr2 at *
    go_enter Tryz.func11, Tryz.ntmps11
    go_wp2_with fail
    refine Calls.mono C.out ?_
    rintro e w1 ⟨rfl, rfl⟩
    clear C
    go_wp2_with fail
    refine Calls.mono CL.out ?_
    rintro e w2 ⟨rfl, s2⟩
    obtain ⟨m, w3, q3, ht, hrun, s3⟩ := K.out w2 s2
    have S3 : Hid (Sep B w0 w3 (Tx t f ⟨fr2, p, putF g id c0, c + 1⟩ :: File f b d :: l)) := s3
    clear CL s2 s3 K
    go_wp2
    go_ret2
    exact ⟨rfl, S3.out⟩
  | nil =>
    have h2 := ok.p2
    have h3 := ok.pr
    simp only at h2 h3
    have CB : Hid _ := fun u hu => takeBehind_t (w := u) (x := ⟨[], p, g, c⟩) (B := B) (w0 := w0) (t := t) (f := f) (b := b) (d := d) (l := l) hu h2 (by simp only; omega)
    have e1 : fstN [] = 0 := rfl
    have e2 : fstB [] = false := rfl
    have e3 : dropF [] = [] := rfl
    simp only [e1, e2, e3] at CL
    simp only [TX.alloc]
    unfold TX.behind at CB
    simp only at CB
    by_cases hrm : d.room ≤ p
    · simp only [hrm, if_true, decide_true, Bool.not_true] at CB ⊢
      clear h ok e1 e2 e3 h2 h3 hrm
      go_enter Tryz.func11, Tryz.ntmps11
      go_wp2_with fail
      refine Calls.mono C.out ?_
      rintro e w1 ⟨rfl, rfl⟩
      clear C
      go_wp2_with fail
      refine Calls.mono CL.out ?_
      rintro e w2 ⟨rfl, s2⟩
      have C2 : Hid _ := CB.out w2 s2
      clear CL s2 CB
      go_wp2_with fail
      refine Calls.mono C2.out ?_
      rintro e w3 ⟨rfl, s3⟩
      have S3 : Hid (Sep B w0 w3 (Tx t f ⟨[], p, g, c⟩ :: File f b d :: l)) := s3
      clear C2 s3
      go_wp2
      go_ret2
      exact ⟨rfl, S3.out⟩
    · simp only [hrm, if_false, decide_false, Bool.not_false] at CB ⊢
      have K : Hid (∀ u, Sep B w0 u (Tx t f ⟨[], p + 1, g, c⟩ :: File f b d :: l) → ∃ m w', u.cell? ⟨t, 3, none⟩ = some (.map (some m)) ∧ t < u.heap.size ∧ (Instr.mapUpdate 83 (.map (some m)) (.int .i64 (p : Int)) (.agg #[.bool false, .int .u8 0, .string ⟨#[]⟩])).run Tryz.prog u = .ok () w' ∧ Sep B w0 w' (Tx t f ⟨[], p + 1, putF g p c0, c + 1⟩ :: File f b d :: l)) := fun u hu => hu.txPut (Wf.of_lt (by omega) (by omega)) c0 hn
      clear h ok e1 e2 e3 h2 h3 hrm
      go_enter Tryz.func11, Tryz.ntmps11
      go_wp2_with fail
      refine Calls.mono C.out ?_
      rintro e w1 ⟨rfl, rfl⟩
      clear C
      go_wp2_with fail
      refine Calls.mono CL.out ?_
      rintro e w2 ⟨rfl, s2⟩
      have C2 : Hid _ := CB.out w2 s2
      clear CL s2 CB
      go_wp2_with fail
      refine Calls.mono C2.out ?_
      rintro e w3 ⟨rfl, s3⟩
      obtain ⟨m, w4, q3, ht, hrun, s4⟩ := K.out w3 s3
      have S4 : Hid (Sep B w0 w4 (Tx t f ⟨[], p + 1, putF g p c0, c + 1⟩ :: File f b d :: l)) := s4
      clear C2 s3 s4 K
      go_wp2
      go_ret2
      exact ⟨rfl, S4.out⟩

set_option maxRecDepth 100000 in
set_option maxHeartbeats 1000000 in
theorem tdrop (h : Sep B w0 w (Tx t f x :: l)) {id : Int} (hk : Wf id) (hl : x.free.length ≤ 20000) : Calls Tryz.prog 13 #[ptr t, .int .i64 id] w fun e w' => e = .returned (.tuple #[]) ∧ Sep B w0 w' (Tx t f (x.drop id) :: l) := by
  have CF0 := tfresh h hk
  have HS : Hid (Sep B w0 w (Tx t f x :: l)) := h
  unfold TX.drop
  by_cases hi : (x.fresh id).isSome = true
  · rw [if_pos hi]
    rw [hi] at CF0
    have CF : Hid _ := CF0
    have K : Hid (∀ u, Sep B w0 u (Tx t f x :: l) → ∃ v m w2, u.cell? ⟨t, 3, none⟩ = some (.map (some m)) ∧ t < u.heap.size ∧ (Builtin.delete_ #[83, 3] 0 #[.map (some m), .int .i64 id]).run Tryz.prog u = .ok (.tuple #[]) w2 ∧
        Sep B w0 w2 (Blk t (txO f v x.pages m) :: FreeR v x.free :: MapC m (delF x.fresh id) x.cnt :: l)) := fun u hu => by
      obtain ⟨v, m, h⟩ := hu.txOpen
      obtain ⟨ht, q0, q1, q2, q3, qf⟩ := h.txCells
      obtain ⟨w2, hrun, h2⟩ := h.up2.mapDel hk 0
      exact ⟨v, m, w2, q3, ht, hrun, h2.dn2⟩
    clear h CF0
    go_enter Tryz.func13, Tryz.ntmps13
    go_wp2_with fail
    refine Calls.mono CF.out ?_
    rintro e w1 ⟨rfl, b1⟩
    obtain ⟨v, m, w2, q3, ht, hrun, h3⟩ := K.out w1 (HS.out.below b1)
    obtain ⟨ht', q0', q1', q2', q3', qf'⟩ := h3.txCells
    have q4 := qf' 1
    have A : Hid _ := add_o v x.free id w2 h3.up1.free.row (by omega)
    have K2 : Hid (∀ ao n c u, Own encP 2 w2.heap.size u (.slice ao n c) (unL x.free [(id, id)]) → Below w2.heap.size w2 u → Sep B w0 (u.setCell ⟨t, 1, none⟩ (.slice ao n c)) (Tx t f ⟨unL x.free [(id, id)], x.pages, delF x.fresh id, x.cnt⟩ :: l)) := fun ao n c u ho hb => by
      have k1 := (h3.up1.drop.addFree hb ho).up1.blkPut (i := 1) (.slice ao n c)
      exact Sep.txShut (x := ⟨unL x.free [(id, id)], x.pages, delF x.fresh id, x.cnt⟩) k1
    obtain ⟨ao, cap, rfl, _⟩ := h3.up1.free
    have hsz : Hid (t < w2.heap.size) := ht'
    clear h3 CF K HS b1
    go_wp2_with fail
    refine Calls.mono A.out ?_
    rintro e w3 ⟨ao3, n3, c3, rfl, r3, b3⟩
    have S3 : Hid _ := K2.out _ _ _ _ r3 b3
    have q5 : w3.frozen? ⟨t, 1, none⟩ = false := (b3.frozen (p := ⟨t, 1, none⟩) hsz.out).trans q4
    have q6 := (b3.cell (p := ⟨t, 1, none⟩) hsz.out).trans q1'
    have q7 : t < w3.heap.size := Nat.lt_of_lt_of_le hsz.out b3.size
    clear A K2 r3 b3
    go_wp2
    go_end0
    exact ⟨rfl, S3.out⟩
  · have hf : (x.fresh id).isSome = false := by simpa using hi
    rw [if_neg hi]
    rw [hf] at CF0
    have CF : Hid _ := CF0
    clear h CF0 hi hf
    go_enter Tryz.func13, Tryz.ntmps13
    go_wp2_with fail
    refine Calls.mono CF.out ?_
    rintro e w1 ⟨rfl, b1⟩
    have S1 : Hid (Sep B w0 w1 (Tx t f x :: l)) := HS.out.below b1
    clear CF b1
    go_wp2
    refine bodyPost_ret (results_none rfl _ _ _) rfl ?_
    exact ⟨rfl, S1.out⟩

set_option maxRecDepth 100000 in
set_option maxHeartbeats 1000000 in
theorem tput (h : Sep B w0 w (Tx t f x :: l)) {id : Int} (hk : Wf id) (kind : UInt8) (s : ByteArray) (hs : s.size ≤ maxLen) (hn : x.cnt < 1000000) : Calls Tryz.prog 15 #[ptr t, .int .i64 id, .int .u8 (kind.toNat : Int), .string s] w fun e w' => e = .returned (.int .i64 (x.put id kind s).1) ∧ Sep B w0 w' (Tx t f (x.put id kind s).2 :: l) := by
  have CF0 := tfresh h hk
  have HS : Hid (Sep B w0 w (Tx t f x :: l)) := h
  unfold TX.put
  by_cases hi : (x.fresh id).isSome = true
  · rw [if_pos hi]
    rw [hi] at CF0
    have CF : Hid _ := CF0
    by_cases hz : 240 < s.size
    · have hz2 : (240 : Int) < (s.size : Int) := by omega
      rw [if_pos hz]
      clear h CF0 hi hz
      go_enter Tryz.func15, Tryz.ntmps15
      go_wp2_with fail
      refine Calls.mono CF.out ?_
      rintro e w1 ⟨rfl, b1⟩
      have S1 : Hid (Sep B w0 w1 (Tx t f x :: l)) := HS.out.below b1
      clear CF b1
      go_wp2
      go_ret
      exact ⟨rfl, S1.out⟩
    · have hz2 : ¬ (240 : Int) < (s.size : Int) := by omega
      rw [if_neg hz]
      have K : Hid (∀ u, Sep B w0 u (Tx t f x :: l) → ∃ m w', u.cell? ⟨t, 3, none⟩ = some (.map (some m)) ∧ t < u.heap.size ∧ (Instr.mapUpdate 83 (.map (some m)) (.int .i64 id) (.agg #[.bool true, .int .u8 (kind.toNat : Int), .string s])).run Tryz.prog u = .ok () w' ∧ Sep B w0 w' (Tx t f ⟨x.free, x.pages, putF x.fresh id ⟨true, kind, s⟩, x.cnt + 1⟩ :: l)) := fun u hu => hu.txPut hk ⟨true, kind, s⟩ hn
      clear h CF0 hi hz
      go_enter Tryz.func15, Tryz.ntmps15
      go_wp2_with fail
      refine Calls.mono CF.out ?_
      rintro e w1 ⟨rfl, b1⟩
      obtain ⟨m, w2, q3, ht, hrun, s2⟩ := K.out w1 (HS.out.below b1)
      have S2 : Hid _ := s2
      clear CF b1 K HS s2
      go_wp2
      go_ret
      exact ⟨rfl, S2.out⟩
  · have hf : (x.fresh id).isSome = false := by simpa using hi
    rw [if_neg hi]
    rw [hf] at CF0
    have CF : Hid _ := CF0
    clear h CF0 hi hf
    go_enter Tryz.func15, Tryz.ntmps15
    go_wp2_with fail
    refine Calls.mono CF.out ?_
    rintro e w1 ⟨rfl, b1⟩
    have S1 : Hid (Sep B w0 w1 (Tx t f x :: l)) := HS.out.below b1
    clear CF b1
    go_wp2
    go_ret
    exact ⟨rfl, S1.out⟩

end
end Go.Proofs.YtnngfkjbbedkpaaGreatDoor
