/-
  The walk of Read.
-/
import Derived.Test.YtalljfckjkbieaaDoorChg
namespace Go.Proofs.YtalljfckjkbieaaDoor
open Go.RowKit
set_option linter.unusedVariables false
open Go.ChangeMaps (setBlock)
section
variable {w w' : World} {b m g : Nat} {pv : Value} {br : Bool} {lf : Int} {d : Dk}

set_option maxHeartbeats 1000000 in
theorem read_m (h : Mem w b m g pv br lf d) (i : Int) : Calls Tryd.prog 52 #[ptr b, .int .i64 i] w fun e w' => e = .returned (.tuple #[.string (d.get i).1.1, .int .i64 (d.get i).1.2]) ∧ Turn (fun k => k = b) w w' ∧ MemD w' b m g pv (d.get i).2 := by
  have H : Hid (Mem w b m g pv br lf d) := h
  have C1 : Hid (Calls Tryd.prog 61 #[ptr b] w fun e w' => e = .returned (.bool d.down) ∧ w = w') := down_m h
  have C2 : Hid (Calls Tryd.prog 62 #[ptr b, .int .i64 i] w fun e w' => e = .returned (.bool (d.has i)) ∧ w = w') := has_m h i
  have lt := h.bl
  have hl := h.ok.len
  by_cases hd : d.down = true
  · have HG : Hid (d.get i = ((ByteArray.empty, 4), d)) := by show d.get i = _; unfold Dk.get; rw [if_pos hd]
    clear h
    go_enter Tryd.func52, Tryd.ntmps52
    go_wp2_with fail
    refine Calls.mono C1.out ?_
    rintro e w1 ⟨rfl, rfl⟩
    go_wp2
    go_ret2
    rw [HG.out]
    exact ⟨rfl, Turn.refl _ _, br, lf, H.out⟩
  · have hf : d.down = false := by simpa using hd
    by_cases hi : d.has i = true
    · have HG : Hid (d.get i = ((d.now i.toNat, 0), { d with reads := wrap64 (d.reads + 1) })) := by show d.get i = _; unfold Dk.get; rw [if_neg hd, if_pos hi]
      obtain ⟨h0, h1⟩ := of_decide_eq_true hi
      obtain ⟨n, rfl⟩ : ∃ n : Nat, i = n := ⟨i.toNat, by omega⟩
      have hn : n < d.sure.length := by omega
      have C3 : Hid (Calls Tryd.prog 63 #[.pointer (some ⟨b, 6, none⟩), .int .i64 1] w fun e w' => e = .returned (.int .i64 (wrap64 (d.reads + 1))) ∧ w' = w.setCell ⟨b, 6, none⟩ (.int .i64 (wrap64 (d.reads + 1)))) := add_m 6 _ _ h.c6 (h.fz 6)
      obtain ⟨w2, e2⟩ : ∃ w2, w2 = w.setCell ⟨b, 6, none⟩ (.int .i64 (wrap64 (d.reads + 1))) := ⟨_, rfl⟩
      have h2 : Mem w2 b m g pv br lf { d with reads := wrap64 (d.reads + 1) } := by rw [e2]; exact h.set6 _
      have H2 : Hid (Mem w2 b m g pv br lf { d with reads := wrap64 (d.reads + 1) }) := h2
      have T2 : Hid (Turn (fun k => k = b) w w2) := by show Turn _ _ _; rw [e2]; exact Turn.setCell (X := fun k => k = b) w rfl _
      rw [← e2] at C3
      have c0 := h2.c0; have c2 := h2.c2; have lt2 := h2.bl; have gl2 := h2.gl; have cg := h2.cellG (i := n) hn
      have hlk := h2.map.look n
      have HN : Hid (d.now (n : Int).toNat = (lastTo d.pend n d.pend.length).getD (sAt d.sure n)) := nowTo_last _ _ _ _
      have em : mapOf d.pend n = (lastTo d.pend n d.pend.length).map fun s => .agg #[.int .i64 n, .string s] := by unfold mapOf; rw [if_neg (by omega)]; rfl
      clear h h2 e2
      cases hlast : lastTo d.pend n d.pend.length with
      | none =>
        rw [hlast] at em HN
        rw [em] at hlk
        have HLK : (Instr.lookup 61 (.map (some m)) (.int .i64 n) true).run Tryd.prog w2 = .ok (.tuple #[.agg #[.int .i64 0, .string ByteArray.empty], .bool false]) w2 := hlk
        clear hlast em hlk
        go_enter Tryd.func52, Tryd.ntmps52
        go_wp2_with fail
        refine Calls.mono C1.out ?_
        rintro e w1 ⟨rfl, rfl⟩
        go_wp2_with fail
        refine Calls.mono C2.out ?_
        rintro e w1 ⟨rfl, rfl⟩
        go_wp2_with fail
        refine Calls.mono C3.out ?_
        rintro e w1 ⟨rfl, rfl⟩
        go_wp2
        go_ret2
        rw [HG.out]
        refine ⟨?_, T2.out.trans (Turn.alloc (fun k => k = b) _ _) (fun _ hk => .inl hk), br, lf, H2.out.alloc _⟩
        rw [HN.out]; rfl
      | some s =>
        rw [hlast] at em HN
        rw [em] at hlk
        have HLK : (Instr.lookup 61 (.map (some m)) (.int .i64 n) true).run Tryd.prog w2 = .ok (.tuple #[.agg #[.int .i64 n, .string s], .bool true]) w2 := hlk
        clear hlast em hlk
        go_enter Tryd.func52, Tryd.ntmps52
        go_wp2_with fail
        refine Calls.mono C1.out ?_
        rintro e w1 ⟨rfl, rfl⟩
        go_wp2_with fail
        refine Calls.mono C2.out ?_
        rintro e w1 ⟨rfl, rfl⟩
        go_wp2_with fail
        refine Calls.mono C3.out ?_
        rintro e w1 ⟨rfl, rfl⟩
        go_wp2
        go_ret2
        rw [HG.out]
        refine ⟨?_, T2.out.trans (Turn.alloc (fun k => k = b) _ _) (fun _ hk => .inl hk), br, lf, H2.out.alloc _⟩
        rw [HN.out]; rfl
    · have hif : d.has i = false := by simpa using hi
      have HG : Hid (d.get i = ((ByteArray.empty, 40), d)) := by show d.get i = _; unfold Dk.get; rw [if_neg hd, if_neg hi]
      clear h
      go_enter Tryd.func52, Tryd.ntmps52
      go_wp2_with fail
      refine Calls.mono C1.out ?_
      rintro e w1 ⟨rfl, rfl⟩
      go_wp2_with fail
      refine Calls.mono C2.out ?_
      rintro e w1 ⟨rfl, rfl⟩
      go_wp2
      go_ret2
      rw [HG.out]
      exact ⟨rfl, Turn.refl _ _, br, lf, H.out⟩

end
end Go.Proofs.YtalljfckjkbieaaDoor
