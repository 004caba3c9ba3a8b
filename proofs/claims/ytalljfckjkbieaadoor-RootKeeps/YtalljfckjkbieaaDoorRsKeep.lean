/-
  What a disk holds while roots are stored one behind the other, and behind a crash; a slice of roots that can be read.
-/
import Derived.Test.YtalljfckjkbieaaDoorRsNoneWalk
namespace Go.Proofs.YtalljfckjkbieaaDoor
open Go.RowKit
set_option linter.unusedVariables false

/-- A slot that has no root, or one of a lesser epoch. -/
def Old (o : ByteArray) (i : Nat) : Prop := o = zeroS ∨ ∃ r : Rt, r.ok = true ∧ r.ep < i ∧ o = slotS r
theorem slotS_list (r : Rt) : (slotS r).data.toList = slotL r := rfl
theorem Old.dec {o : ByteArray} {i : Nat} (h : Old o i) (hi : 1 ≤ i) : (decR o.data.toList).ep < i := by
  rcases h with rfl | ⟨r, h1, h2, rfl⟩
  · rw [decR_no zero_dec]
    show (0 : Int) < i
    omega
  · rw [slotS_list, decR_slot h1]
    exact h2
theorem Old.mono {o : ByteArray} {i j : Nat} (h : Old o i) (hij : i ≤ j) : Old o j := by
  rcases h with h | ⟨r, h1, h2, h3⟩
  · exact .inl h
  · exact .inr ⟨r, h1, by omega, h3⟩

/-- Behind i roots. -/
structure St (d : Dk) (i : Nat) (r : Rt) : Prop where
  up : Up 3 d
  pe : d.pend = []
  old : Old (d.now ((i + 1) % 2)) i
  cur : (i = 0 ∧ d.now (i % 2) = zeroS) ∨ (r.ok = true ∧ r.ep = i ∧ d.now (i % 2) = slotS r)
theorem St.new : St (Dk.new 3) 0 rt0 :=
  ⟨Up.new 3 (by decide), rfl, .inl (new_now (n := 3) (by decide) (by decide)), .inl ⟨rfl, new_now (n := 3) (by decide) (by decide)⟩⟩
theorem St.curOld {d : Dk} {i : Nat} {r : Rt} (h : St d i r) : Old (d.now (i % 2)) (i + 1) := by
  rcases h.cur with ⟨_, h1⟩ | ⟨h1, h2, h3⟩
  · exact .inl h1
  · exact .inr ⟨r, h1, by omega, h3⟩
theorem St.same {d d2 : Dk} {i : Nat} {r : Rt} (h : St d i r) (hu : Up 3 d2) (hp : d2.pend = []) (hn : ∀ k, d2.now k = d.now k) : St d2 i r :=
  ⟨hu, hp, by rw [hn]; exact h.old, by rw [hn]; exact h.cur⟩
theorem now_upd {d d' : Dk} {i : Nat} {s : ByteArray} (hp : d'.pend = d.pend ++ [(i, s)]) (hs : d'.sure = d.sure) (j : Nat) : d'.now j = if i = j then s else d.now j := now_snoc hp hs j

theorem ep_mod {r : Rt} {i : Nat} (h : r.ep = i) : r.ep % 2 = ((i % 2 : Nat) : Int) := by rw [h]; omega
/-- A root is stored. -/
theorem St.store {d : Dk} {i : Nat} {r r2 : Rt} (h : St d i r) (ok : d.Ok) (hr : r2.ok = true) (he : r2.ep = (i : Int) + 1) : (d.store r2).1 = 0 ∧ St (d.store r2).2 (i + 1) r2 ∧ (d.store r2).2.pend = [] := by
  have he2 : r2.ep = ((i + 1 : Nat) : Int) := by omega
  have hm := ep_mod he2
  unfold Dk.store
  rw [if_pos hr, hm]
  have hj : (i + 1) % 2 < 2 := Nat.mod_lt _ (by decide)
  rcases h.up.putSlot (by decide) (((i + 1) % 2 : Nat) : Int) (slotS r2) (slotS_size r2) with ⟨p1, _, _, p4, p5, p6⟩ | ⟨p1, _⟩
  · rw [if_pos p1]
    have ok2 : (d.putSlot (((i + 1) % 2 : Nat) : Int) (slotS r2)).2.Ok := by
      unfold Dk.putSlot
      split
      · exact ok.put _ _
      · exact ok
    obtain ⟨s1, s2, s3, s4, s5⟩ := p4.sync ok2
    have hn : ∀ k, (d.putSlot (((i + 1) % 2 : Nat) : Int) (slotS r2)).2.sync.2.now k = if (i + 1) % 2 = k then slotS r2 else d.now k := fun k => by
      rw [s3 k]
      exact now_upd (by rw [p5, Int.toNat_natCast]) p6 k
    refine ⟨s1, ⟨s2, s4, ?_, .inr ⟨hr, he2, ?_⟩⟩, s4⟩
    · rw [hn, if_neg (by omega), show (i + 1 + 1) % 2 = i % 2 by omega]
      exact h.curOld
    · rw [hn, if_pos rfl]
  · exfalso
    apply p1
    have hh : d.has (((i + 1) % 2 : Nat) : Int) = true := Dk.has_nat (by rw [h.up.sl]; omega)
    unfold Dk.putSlot
    rw [if_pos (by unfold slotB; exact decide_eq_true (by omega))]
    rcases h.up.put (((i + 1) % 2 : Nat) : Int) (slotS r2) with ⟨q1, _⟩ | ⟨_, _, q3⟩
    · exact q1
    · exact absurd ⟨by omega, by omega, slotS_size r2⟩ q3
/-- What two slots are picked as, one of which has a root and the other one an elder one, or none. -/
theorem pick_cur {d : Dk} {i : Nat} {r : Rt} (hi : 1 ≤ i) (hr : r.ok = true) (he : r.ep = i) (hc : d.now (i % 2) = slotS r) (ho : (decR (d.now ((i + 1) % 2)).data.toList).ep < i) : pkR (d.now 0).data.toList (d.now 1).data.toList = r ∧ pkE (d.now 0).data.toList (d.now 1).data.toList = 0 := by
  rcases Nat.mod_two_eq_zero_or_one i with h | h
  · rw [h] at hc
    rw [show (i + 1) % 2 = 1 by omega] at ho
    rw [hc, slotS_list]
    exact ⟨by rw [pkR_left (by rw [decR_slot hr]; omega), decR_slot hr], pkE_left (decB_slot hr)⟩
  · rw [h] at hc
    rw [show (i + 1) % 2 = 0 by omega] at ho
    rw [hc, slotS_list]
    exact ⟨by rw [pkR_right (by rw [decR_slot hr]; omega), decR_slot hr], pkE_right (decB_slot hr)⟩
/-- ... and is loaded. -/
theorem St.load {d : Dk} {i : Nat} {r : Rt} (h : St d i r) (hi : 1 ≤ i) : d.load.1 = (r, 0) ∧ St d.load.2 i r ∧ d.load.2.pend = [] := by
  rcases h.cur with ⟨h0, _⟩ | ⟨hr, he, hc⟩
  · omega
  · obtain ⟨l1, l2, l3, l4, l5⟩ := h.up.load (by decide)
    obtain ⟨p1, p2⟩ := pick_cur hi hr he hc (h.old.dec hi)
    refine ⟨by rw [l1, p1, p2], h.same l2 (l4.trans h.pe) l3, l4.trans h.pe⟩

/-- The power goes with the next write. -/
theorem St.down {d : Dk} {i : Nat} {r r2 : Rt} (h : St d i r) (hr : r2.ok = true) (he : r2.ep = (i : Int) + 1) :
    ((d.stop 0).store r2).1 = 4 ∧ ((d.stop 0).store r2).2.down = true ∧ ((d.stop 0).store r2).2.sure = d.sure ∧ ((d.stop 0).store r2).2.pend = [((i + 1) % 2, slotS r2)] := by
  have he2 : r2.ep = ((i + 1 : Nat) : Int) := by omega
  have hh : (d.stop 0).has (((i + 1) % 2 : Nat) : Int) = true := Dk.has_nat (by show _ < d.sure.length; rw [h.up.sl]; omega)
  have e : (d.stop 0).putSlot (((i + 1) % 2 : Nat) : Int) (slotS r2) = (4, { d with pend := [((i + 1) % 2, slotS r2)], writes := wrap64 (d.writes + 1), down := true, brk := none }) := by
    unfold Dk.putSlot
    rw [if_pos (by unfold slotB; exact decide_eq_true (by omega)), Dk.put_ok (d := d.stop 0) (show (d.stop 0).down = false from h.up.dn) hh (slotS_size r2)]
    show (4, ({ d with pend := d.pend ++ [(((((i + 1) % 2 : Nat) : Int)).toNat, slotS r2)], writes := wrap64 (d.writes + 1), down := true, brk := none } : Dk)) = _
    rw [h.pe, Int.toNat_natCast]
    rfl
  have n4 : ¬ ((4 : Int) = 0) := by decide
  unfold Dk.store
  rw [if_pos hr, ep_mod he2, e, if_neg n4]
  exact ⟨rfl, rfl, rfl, rfl⟩
theorem load_down {d : Dk} (h : d.down = true) : d.load = ((rt0, 4), d) := by
  have e : d.slot 0 = ((ByteArray.empty, 4), d) := by
    unfold Dk.slot
    rw [if_pos (by decide)]
    unfold Dk.get
    rw [if_pos h]
  have n4 : ¬ ((4 : Int) = 0) := by decide
  unfold Dk.load
  rw [e, if_neg n4]

theorem tear_list (k : Nat) (a b : ByteArray) (hb : b.size = 256) (hk : k ≤ 256) : (tear k a b).data.toList = a.data.toList.take k ++ b.data.toList.drop k := by
  unfold tear
  rw [ByteArray.data_append, Array.toList_append, Lib.extract_data, Lib.extract_data, hb]
  have : (b.data.toList.drop k).length ≤ 256 - k := by rw [List.length_drop, len_of, hb]; exact Nat.le_refl _
  rw [List.take_of_length_le this, Nat.sub_zero, List.drop_zero]
theorem zero_list : zeroS.data.toList = List.replicate 256 0 := by
  unfold zeroS
  simp
/-- Torn over noughts. -/
theorem torn_nought {b x : Rt} (hb : b.ok = true) (hx : x.ok = true) (n : Nat) (hn : n ≤ 256) (h : (slotL b).take n ++ (List.replicate 256 (0 : UInt8)).drop n = slotL x) : x = b := by
  have lb := slotL_length b
  have eb := (Rt.ok_iff.1 hb).1
  have exx := (Rt.ok_iff.1 hx).1
  have ht : ((slotL b).take n).length = n := by rw [List.length_take]; omega
  have dn : (slotL x).drop n = (List.replicate 256 (0 : UInt8)).drop n := by rw [← h]; exact drop_rs _ _ n ht
  have tn : (slotL x).take n = (slotL b).take n := by rw [← h]; exact take_rs _ _ n ht
  have hs4 := slotL_take4 x
  have hs252 := slotL_drop252 x
  by_cases h252 : n ≤ 252
  · exfalso
    have e1 : beBytes 4 x.ep.toNat = beBytes 4 0 := by
      rw [← hs252, show 252 = n + (252 - n) by omega, ← List.drop_drop, dn, List.drop_drop, List.drop_replicate, show 256 - (n + (252 - n)) = 4 by omega]
      rfl
    have := congrArg beNat e1
    rw [beNat_bytes 4 _ (by omega), beNat_bytes 4 _ (by omega)] at this
    omega
  · have e1 : x.ep = b.ep := by
      have e2 : beBytes 4 x.ep.toNat = beBytes 4 b.ep.toNat := by
        rw [← hs4, ← slotL_take4 b, show (4 : Nat) = min 4 n by omega, ← List.take_take, ← List.take_take, tn]
      have := congrArg beNat e2
      rw [beNat_bytes 4 _ (by omega), beNat_bytes 4 _ (by omega)] at this
      omega
    have db : (slotL x).drop n = (slotL b).drop n := by
      rw [show n = 252 + (n - 252) by omega, ← List.drop_drop, ← List.drop_drop, hs252, slotL_drop252 b, e1]
    refine slotL_inj hx hb ?_
    rw [← List.take_append_drop n (slotL x), db, tn, List.take_append_drop]

/-- What a torn slot has. -/
theorem torn_old {o : ByteArray} {i : Nat} {b : Rt} (ho : Old o i) (hi : 1 ≤ i) (hb : b.ok = true) (hbe : b.ep = (i : Int) + 1) (k : Nat) (hk : k ≤ 256) : decR (tear k (slotS b) o).data.toList = b ∨ (decR (tear k (slotS b) o).data.toList).ep < i := by
  cases hd : decB (tear k (slotS b) o).data.toList
  · right
    rw [decR_no hd]
    show (0 : Int) < i
    omega
  · rcases ho with rfl | ⟨r, h1, h2, rfl⟩
    · left
      rw [tear_list k _ _ zeroS_size hk, slotS_list, zero_list] at hd ⊢
      exact torn_nought hb (dec_inv hd).1 k hk (dec_inv hd).2
    · rw [tear_list k _ _ (slotS_size r) hk, slotS_list, slotS_list] at hd ⊢
      rcases torn_dec h1 hb (by omega) k hk hd with h | h
      · right; rw [h]; exact h2
      · exact .inl h

/-- Behind the crash: the write was lost, or came, whole or torn. -/
theorem St.crash {d d2 : Dk} {i : Nat} {r r2 : Rt} (h : St d i r) (hi : 1 ≤ i) (hr : r2.ok = true) (he : r2.ep = (i : Int) + 1) (hs : d2.sure = d.sure) (hp : d2.pend = [((i + 1) % 2, slotS r2)]) (keep : List Int) (cut : Int) :
    (keep = [] → (d2.crash keep 0 cut).load.1 = (r, 0)) ∧ (keep = [0] → ((d2.crash keep 0 cut).load.1 = (r, 0) ∧ cut < 256) ∨ (d2.crash keep 0 cut).load.1 = (r2, 0)) := by
  have hj : (i + 1) % 2 < 3 := by omega
  have up2 : ∀ kp, Up 3 (d2.crash kp 0 cut) := fun kp => ⟨rfl, rfl, by rw [Dk.crash_length, hs]; exact h.up.sl⟩
  have nd : ∀ k, d.now k = sAt d.sure k := fun k => h.up.now_sure h.pe k
  have nd2 : ∀ kp k, (d2.crash kp 0 cut).now k = sAt (d2.crash kp 0 cut).sure k := fun kp k => (up2 kp).now_sure rfl k
  have sz : d.sure.length = 3 := h.up.sl
  have step : ∀ kp, (d2.crash kp 0 cut).sure = crashStep d2.pend kp 0 cut d.sure 0 := fun kp => by
    show crashTo d2.pend kp 0 cut d2.sure d2.pend.length = _
    rw [hs, hp]
    rfl
  rcases h.cur with ⟨h0, _⟩ | ⟨hr1, he1, hc1⟩
  · omega
  · constructor
    · rintro rfl
      have hn : ∀ k, (d2.crash [] 0 cut).now k = d.now k := fun k => by
        rw [nd2, step, nd]
        rfl
      exact ((h.same (up2 []) rfl hn).load hi).1
    · rintro rfl
      have hsu : (d2.crash [0] 0 cut).sure = d.sure.set ((i + 1) % 2) (tear (clampN cut) (slotS r2) (d.now ((i + 1) % 2))) := by
        rw [step, hp, nd]
        rfl
      have hn1 : (d2.crash [0] 0 cut).now ((i + 1) % 2) = tear (clampN cut) (slotS r2) (d.now ((i + 1) % 2)) := by
        rw [nd2, hsu]
        unfold sAt
        rw [List.getD_eq_getElem?_getD, List.getElem?_set_self (by omega)]
        rfl
      have hn2 : (d2.crash [0] 0 cut).now (i % 2) = slotS r := by
        rw [nd2, hsu, ← hc1]
        unfold sAt
        rw [List.getD_eq_getElem?_getD, List.getElem?_set_ne (by omega), nd]
        unfold sAt
        rw [List.getD_eq_getElem?_getD]
      obtain ⟨l1, _⟩ := (up2 [0]).load (by decide)
      rw [l1]
      by_cases hX : decR (tear (clampN cut) (slotS r2) (d.now ((i + 1) % 2))).data.toList = r2
      · right
        have hdB : decB (tear (clampN cut) (slotS r2) (d.now ((i + 1) % 2))).data.toList = true := by
          cases hd : decB (tear (clampN cut) (slotS r2) (d.now ((i + 1) % 2))).data.toList
          · rw [decR_no hd] at hX
            rw [← hX] at hr
            rw [rt0_ok] at hr
            cases hr
          · rfl
        have hs2 : (d2.crash [0] 0 cut).now ((i + 1) % 2) = slotS r2 := by
          rw [hn1]
          apply ba_ext
          rw [slotS_list, (dec_inv hdB).2, hX]
        obtain ⟨p1, p2⟩ := pick_cur (i := i + 1) (d := d2.crash [0] 0 cut) (by omega) hr (by omega) hs2 (by
          rw [show (i + 1 + 1) % 2 = i % 2 by omega, hn2, slotS_list, decR_slot hr1]
          omega)
        rw [p1, p2]
      · left
        have hlt : (decR (tear (clampN cut) (slotS r2) (d.now ((i + 1) % 2))).data.toList).ep < i := (torn_old h.old hi hr he (clampN cut) (clampN_le cut)).resolve_left hX
        obtain ⟨p1, p2⟩ := pick_cur (i := i) (d := d2.crash [0] 0 cut) hi hr1 he1 hn2 (by rw [hn1]; exact hlt)
        rw [p1, p2]
        refine ⟨rfl, ?_⟩
        rcases Int.lt_or_le cut 256 with h256 | h256
        · exact h256
        · exfalso
          apply hX
          have hz : (d.now ((i + 1) % 2)).size = 256 := by
            rcases h.old with e | ⟨q, _, _, e⟩
            · rw [e]; exact zeroS_size
            · rw [e]; exact slotS_size q
          rw [show clampN cut = 256 by unfold clampN; omega, tear_all (slotS_size r2) hz, slotS_list, decR_slot hr]

/-- A slice of roots that can be read. -/
def RootRow (w : World) (v : Value) (l : List Rt) : Prop := ∃ ao cap, v = .slice ao l.length cap ∧ (l ≠ [] → ∃ r o, ao = some ⟨r, o, none⟩ ∧ r < w.heap.size ∧ ∀ j, j < l.length →
    w.cell? ⟨r, o + j * 5, none⟩ = some (.int .i64 (l.getD j rt0).ep) ∧ w.cell? ⟨r, o + j * 5 + 1, none⟩ = some (.int .i64 (l.getD j rt0).pg) ∧ w.cell? ⟨r, o + j * 5 + 2, none⟩ = some (.int .i64 (l.getD j rt0).ct) ∧
    w.cell? ⟨r, o + j * 5 + 3, none⟩ = some (.int .i64 (l.getD j rt0).fr) ∧ w.cell? ⟨r, o + j * 5 + 4, none⟩ = some (.int .i64 (l.getD j rt0).nx))
theorem RootRow.at {w wr : World} {ao : Option Addr} {n cap : Nat} {l : List Rt} {B : Nat} (h : RootRow w (.slice ao n cap) l) (hb : Below B w wr) (hB : w.heap.size ≤ B) {j : Nat} (hj : j < l.length) :
    ∃ r o, ao = some ⟨r, o, none⟩ ∧ r < wr.heap.size ∧ wr.cell? ⟨r, o + j * 5, none⟩ = some (.int .i64 (l.getD j rt0).ep) ∧ wr.cell? ⟨r, o + j * 5 + 1, none⟩ = some (.int .i64 (l.getD j rt0).pg) ∧ wr.cell? ⟨r, o + j * 5 + 2, none⟩ = some (.int .i64 (l.getD j rt0).ct) ∧
    wr.cell? ⟨r, o + j * 5 + 3, none⟩ = some (.int .i64 (l.getD j rt0).fr) ∧ wr.cell? ⟨r, o + j * 5 + 4, none⟩ = some (.int .i64 (l.getD j rt0).nx) := by
  obtain ⟨ao', cap', e, h1⟩ := h
  cases e
  obtain ⟨r, o, e2, hr, hc⟩ := h1 (by intro e; rw [e] at hj; simp at hj)
  have k : ∀ j, wr.cell? ⟨r, j, none⟩ = w.cell? ⟨r, j, none⟩ := fun j => World.cell?_of_block (a := ⟨r, j, none⟩) (hb.block r (by omega))
  refine ⟨r, o, e2, Nat.lt_of_lt_of_le hr hb.size, ?_⟩
  rw [k, k, k, k, k]
  exact hc j hj

end Go.Proofs.YtalljfckjkbieaaDoor
