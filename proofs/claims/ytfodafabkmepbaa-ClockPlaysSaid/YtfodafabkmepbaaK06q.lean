/- The walk of the law ClockPlays. Written by wip/tools/gen06q.py. -/
import Derived.Test.YtfodafabkmepbaaK06l
import Derived.Test.YtfodafabkmepbaaK06j
import Derived.Test.YtfodafabkmepbaaOwn
namespace Go.Proofs.Ytfodafabkmepbaa
open Go.RowKit
set_option linter.unusedVariables false
set_option linter.unusedSimpArgs false
set_option maxRecDepth 100000 in
set_option maxHeartbeats 2000000 in
theorem pl_start {n wt b cp d : Int} {o : Bool} (hm : MayP ⟨n, wt, b, cp, o, d⟩) (hn : n ≤ 1000) : ∃ (p0 p1 p2 p3 p5 : Int) (p4 rg : Bool), MayP ⟨p0, p1, p2, p3, p4, p5⟩ ∧ p0 ≤ n + 1 ∧
    (∀ w, Calls Try.prog 14 #[.agg #[.int .i64 n, .int .i64 wt, .int .i64 b, .int .i64 cp, .bool o, .int .i64 d]] w fun e w' => e = .returned (.tuple #[.agg #[.int .i64 p0, .int .i64 p1, .int .i64 p2, .int .i64 p3, .bool p4, .int .i64 p5], .int .i64 0]) ∧ Below w.heap.size w w') ∧
    (∀ w, Calls Try.prog 19 #[.agg #[.int .i64 n, .int .i64 wt, .int .i64 b, .int .i64 cp, .bool o, .int .i64 d], .int .i64 wt] w fun e w' => e = .returned (.agg #[.int .i64 p0, .int .i64 p1, .int .i64 p2, .int .i64 p3, .bool p4, .int .i64 p5]) ∧ Below w.heap.size w w') ∧
    (∀ w, Calls Try.prog 11 #[.agg #[.int .i64 p0, .int .i64 p1, .int .i64 p2, .int .i64 p3, .bool p4, .int .i64 p5]] w fun e w' => e = .returned (.bool true) ∧ Below w.heap.size w w') := by
  have hm0 := hm
  unfold MayP at hm0
  simp only [] at hm0
  obtain ⟨m1, m2, m3, m4, m5, m6, m7, m8⟩ := hm0
  have hq : MayP ⟨n, wt, b, cp, true, n + wt⟩ := by
    unfold MayP
    simp only []
    repeat' split
    all_goals (refine ⟨?_, ?_, ?_, ?_, ?_, ?_, ?_, ?_⟩ <;> first | omega | (intro h; first | (simp at h; done) | (have := m7 h; omega) | (simp_all; done) | omega | (simp_all; omega)))
  exact ⟨n, wt, b, cp, n + wt, true, false, hq, by omega, fun w => start_yes _ hm w, fun w => rat_pos m5 m6 (by omega) (by omega) w, fun w => by have t := may_b ⟨n, wt, b, cp, true, n + wt⟩ w; rw [mayC_true hq] at t; exact t⟩
set_option maxRecDepth 100000 in
set_option maxHeartbeats 2000000 in
theorem pl_stop {n wt b cp d : Int} {o : Bool} (hm : MayP ⟨n, wt, b, cp, o, d⟩) (hn : n ≤ 1000) : ∃ (p0 p1 p2 p3 p5 : Int) (p4 rg : Bool), MayP ⟨p0, p1, p2, p3, p4, p5⟩ ∧ p0 ≤ n + 1 ∧
    (∀ w, Calls Try.prog 15 #[.agg #[.int .i64 n, .int .i64 wt, .int .i64 b, .int .i64 cp, .bool o, .int .i64 d]] w fun e w' => e = .returned (.tuple #[.agg #[.int .i64 p0, .int .i64 p1, .int .i64 p2, .int .i64 p3, .bool p4, .int .i64 p5], .int .i64 0]) ∧ Below w.heap.size w w') ∧
    (∀ w, Calls Try.prog 19 #[.agg #[.int .i64 n, .int .i64 wt, .int .i64 b, .int .i64 cp, .bool o, .int .i64 d], .int .i64 0] w fun e w' => e = .returned (.agg #[.int .i64 p0, .int .i64 p1, .int .i64 p2, .int .i64 p3, .bool p4, .int .i64 p5]) ∧ Below w.heap.size w w') ∧
    (∀ w, Calls Try.prog 11 #[.agg #[.int .i64 p0, .int .i64 p1, .int .i64 p2, .int .i64 p3, .bool p4, .int .i64 p5]] w fun e w' => e = .returned (.bool true) ∧ Below w.heap.size w w') := by
  have hm0 := hm
  unfold MayP at hm0
  simp only [] at hm0
  obtain ⟨m1, m2, m3, m4, m5, m6, m7, m8⟩ := hm0
  have hq : MayP ⟨n, wt, b, cp, false, 0⟩ := by
    unfold MayP
    simp only []
    repeat' split
    all_goals (refine ⟨?_, ?_, ?_, ?_, ?_, ?_, ?_, ?_⟩ <;> first | omega | (intro h; first | (simp at h; done) | (have := m7 h; omega) | (simp_all; done) | omega | (simp_all; omega)))
  exact ⟨n, wt, b, cp, 0, false, false, hq, by omega, fun w => stop_yes _ hm w, fun w => rat_zero m5 m6 w, fun w => by have t := may_b ⟨n, wt, b, cp, false, 0⟩ w; rw [mayC_true hq] at t; exact t⟩
set_option maxRecDepth 100000 in
set_option maxHeartbeats 2000000 in
theorem pl_double {n wt b cp d : Int} {o : Bool} (hm : MayP ⟨n, wt, b, cp, o, d⟩) (hn : n ≤ 1000) : ∃ (p0 p1 p2 p3 p5 : Int) (p4 rg : Bool), MayP ⟨p0, p1, p2, p3, p4, p5⟩ ∧ p0 ≤ n + 1 ∧
    (∀ w, Calls Try.prog 17 #[.agg #[.int .i64 n, .int .i64 wt, .int .i64 b, .int .i64 cp, .bool o, .int .i64 d]] w fun e w' => e = .returned (.tuple #[.agg #[.int .i64 p0, .int .i64 p1, .int .i64 p2, .int .i64 p3, .bool p4, .int .i64 p5], .int .i64 0]) ∧ Below w.heap.size w w') ∧
    (∀ w, Calls Try.prog 20 #[.agg #[.int .i64 n, .int .i64 wt, .int .i64 b, .int .i64 cp, .bool o, .int .i64 d]] w fun e w' => e = .returned (.agg #[.int .i64 p0, .int .i64 p1, .int .i64 p2, .int .i64 p3, .bool p4, .int .i64 p5]) ∧ Below w.heap.size w w') ∧
    (∀ w, Calls Try.prog 11 #[.agg #[.int .i64 p0, .int .i64 p1, .int .i64 p2, .int .i64 p3, .bool p4, .int .i64 p5]] w fun e w' => e = .returned (.bool true) ∧ Below w.heap.size w w') := by
  have hm0 := hm
  unfold MayP at hm0
  simp only [] at hm0
  obtain ⟨m1, m2, m3, m4, m5, m6, m7, m8⟩ := hm0
  have hq : MayP ⟨n, (if cp < 2 * wt then cp else 2 * wt), b, cp, o, d⟩ := by
    unfold MayP
    simp only []
    repeat' split
    all_goals (refine ⟨?_, ?_, ?_, ?_, ?_, ?_, ?_, ?_⟩ <;> first | omega | (intro h; first | (simp at h; done) | (have := m7 h; omega) | (simp_all; done) | omega | (simp_all; omega)))
  exact ⟨n, (if cp < 2 * wt then cp else 2 * wt), b, cp, d, o, false, hq, by omega, fun w => double_yes _ hm w, fun w => rdouble_any _ hm w, fun w => by have t := may_b ⟨n, (if cp < 2 * wt then cp else 2 * wt), b, cp, o, d⟩ w; rw [mayC_true hq] at t; exact t⟩
set_option maxRecDepth 100000 in
set_option maxHeartbeats 2000000 in
theorem pl_reset {n wt b cp d : Int} {o : Bool} (hm : MayP ⟨n, wt, b, cp, o, d⟩) (hn : n ≤ 1000) : ∃ (p0 p1 p2 p3 p5 : Int) (p4 rg : Bool), MayP ⟨p0, p1, p2, p3, p4, p5⟩ ∧ p0 ≤ n + 1 ∧
    (∀ w, Calls Try.prog 18 #[.agg #[.int .i64 n, .int .i64 wt, .int .i64 b, .int .i64 cp, .bool o, .int .i64 d]] w fun e w' => e = .returned (.tuple #[.agg #[.int .i64 p0, .int .i64 p1, .int .i64 p2, .int .i64 p3, .bool p4, .int .i64 p5], .int .i64 0]) ∧ Below w.heap.size w w') ∧
    (∀ w, Calls Try.prog 21 #[.agg #[.int .i64 n, .int .i64 wt, .int .i64 b, .int .i64 cp, .bool o, .int .i64 d]] w fun e w' => e = .returned (.agg #[.int .i64 p0, .int .i64 p1, .int .i64 p2, .int .i64 p3, .bool p4, .int .i64 p5]) ∧ Below w.heap.size w w') ∧
    (∀ w, Calls Try.prog 11 #[.agg #[.int .i64 p0, .int .i64 p1, .int .i64 p2, .int .i64 p3, .bool p4, .int .i64 p5]] w fun e w' => e = .returned (.bool true) ∧ Below w.heap.size w w') := by
  have hm0 := hm
  unfold MayP at hm0
  simp only [] at hm0
  obtain ⟨m1, m2, m3, m4, m5, m6, m7, m8⟩ := hm0
  have hq : MayP ⟨n, b, b, cp, o, (if o = true then (if n + b < d then n + b else d) else d)⟩ := by
    unfold MayP
    simp only []
    repeat' split
    all_goals (refine ⟨?_, ?_, ?_, ?_, ?_, ?_, ?_, ?_⟩ <;> first | omega | (intro h; first | (simp at h; done) | (have := m7 h; omega) | (simp_all; done) | omega | (simp_all; omega)))
  exact ⟨n, b, b, cp, (if o = true then (if n + b < d then n + b else d) else d), o, false, hq, by omega, fun w => reset_yes _ hm w, fun w => rreset_any _ hm w, fun w => by have t := may_b ⟨n, b, b, cp, o, (if o = true then (if n + b < d then n + b else d) else d)⟩ w; rw [mayC_true hq] at t; exact t⟩
set_option maxRecDepth 100000 in
set_option maxHeartbeats 2000000 in
theorem pl_tick {n wt b cp d : Int} {o : Bool} (hm : MayP ⟨n, wt, b, cp, o, d⟩) (hn : n ≤ 1000) : ∃ (p0 p1 p2 p3 p5 : Int) (p4 rg : Bool), MayP ⟨p0, p1, p2, p3, p4, p5⟩ ∧ p0 ≤ n + 1 ∧
    (∀ w, Calls Try.prog 16 #[.agg #[.int .i64 n, .int .i64 wt, .int .i64 b, .int .i64 cp, .bool o, .int .i64 d]] w fun e w' => e = .returned (.tuple #[.agg #[.int .i64 p0, .int .i64 p1, .int .i64 p2, .int .i64 p3, .bool p4, .int .i64 p5], .bool rg, .int .i64 0]) ∧ Below w.heap.size w w') ∧
    (∀ w, Calls Try.prog 22 #[.agg #[.int .i64 n, .int .i64 wt, .int .i64 b, .int .i64 cp, .bool o, .int .i64 d]] w fun e w' => e = .returned (.tuple #[.agg #[.int .i64 p0, .int .i64 p1, .int .i64 p2, .int .i64 p3, .bool p4, .int .i64 p5], .bool rg]) ∧ Below w.heap.size w w') ∧
    (∀ w, Calls Try.prog 11 #[.agg #[.int .i64 p0, .int .i64 p1, .int .i64 p2, .int .i64 p3, .bool p4, .int .i64 p5]] w fun e w' => e = .returned (.bool true) ∧ Below w.heap.size w w') := by
  have hm0 := hm
  unfold MayP at hm0
  simp only [] at hm0
  obtain ⟨m1, m2, m3, m4, m5, m6, m7, m8⟩ := hm0
  have hq : MayP (tickC ⟨n, wt, b, cp, o, d⟩) ∧ (tickC ⟨n, wt, b, cp, o, d⟩).now ≤ n + 1 := by
    unfold tickC MayP
    simp only []
    cases o
    · simp_all; omega
    · have := m7 rfl
      by_cases h : d = n + 1
      · simp [h]; omega
      · simp [h]; omega
  have S := tick_yes _ hm (by simp; omega)
  have R := rtick_any _ hm (by simp; omega)
  generalize tickC ⟨n, wt, b, cp, o, d⟩ = T at S R hq
  generalize ringsC ⟨n, wt, b, cp, o, d⟩ = rg at S R
  obtain ⟨p0, p1, p2, p3, p4, p5⟩ := T
  exact ⟨p0, p1, p2, p3, p5, p4, rg, hq.1, hq.2, fun w => S w, fun w => R w, fun w => by have t := may_b ⟨p0, p1, p2, p3, p4, p5⟩ w; rw [mayC_true hq.1] at t; exact t⟩
set_option maxRecDepth 100000 in
set_option maxHeartbeats 2000000 in
theorem plays_no (bs ms : Int) (sv : Value) (hm : ¬ MayP ⟨0, bs, bs, ms, false, 0⟩) (W : World) : Calls Try.prog 5 #[.int .i64 bs, .int .i64 ms, sv] W fun e w' => e = .returned (.bool true) ∧ Below W.heap.size W w' := by
  have S := new_no bs ms hm
  simp only [ckV, zeroC] at S
  clear hm
  go_enter Try.func5, Try.ntmps5
  go_wp2_with fail
  refine (S _).mono ?_
  rintro e w1 ⟨rfl, g1⟩
  have sw1 := g1.size
  have B := chain (W := W) (by go_grown) g1
  have sB := B.size
  clear g1
  go_wp2_with (go_at_call 13; refine (up (awake_any _) (by go_grown : Below W.heap.size W _)).mono ?_; rintro e w9 ⟨rfl, B⟩)
  go_ret
  exact ⟨rfl, by go_grown⟩
set_option maxRecDepth 100000 in
set_option maxHeartbeats 2000000 in
theorem plays_yes (bs ms : Int) (sv : Value) (l : List UInt8) (hm : MayP ⟨0, bs, bs, ms, false, 0⟩) (W : World) (h : Rd W sv l) : Calls Try.prog 5 #[.int .i64 bs, .int .i64 ms, sv] W fun e w' => e = .returned (.bool true) ∧ Below W.heap.size W w' := by
  have S := new_yes bs ms hm
  simp only [ckV, newC] at S
  have HM0 := Lib.hid hm
  clear hm
  obtain ⟨ao, cap, rfl, hl, hcap, hnone, hx⟩ := h
  unfold maxLen at hcap
  have HX := Lib.hid hx
  clear hx hnone
  go_enter Try.func5, Try.ntmps5
  go_wp2_with fail
  refine (S _).mono ?_
  rintro e w1 ⟨rfl, g1⟩
  have sw1 := g1.size
  have B := chain (W := W) (by go_grown) g1
  have sB := B.size
  clear g1 S
  go_wp2_with fail
  go_loopw [10] (fun i wr => ∃ (k : Nat) (n wt b cp d : Int) (o : Bool), i = .int .i64 (k : Int) ∧ k ≤ l.length ∧ k ≤ 200 ∧ n ≤ k ∧ Hid (MayP ⟨n, wt, b, cp, o, d⟩) ∧ Below W.heap.size W wr ∧ Hid (wr.heap[w1.heap.size]? = some (.cells #[.int .i64 n, .int .i64 wt, .int .i64 b, .int .i64 cp, .bool o, .int .i64 d] 23 (0, 0))) ∧ Hid (wr.heap[(w1.heap.size + 1)]? = some (.cells #[.int .i64 n, .int .i64 wt, .int .i64 b, .int .i64 cp, .bool o, .int .i64 d] 23 (0, 0))))
    (fun i _ => 201 - (intOf i).toNat)
  case atStart =>
    refine ⟨0, 0, bs, bs, ms, 0, false, rfl, by omega, by omega, by omega, HM0, by go_grown, Lib.hid ?_, Lib.hid ?_⟩
    · exact (two_allocs w1 _ _).1
    · exact (two_allocs w1 _ _).2.1
  case round =>
    obtain ⟨k, n, wt, b, cp, d, o, rfl, hk1, hk2, hn, HM, B, HC, HV⟩ := hrel
    have sB := B.size
    have rc := HC.out
    have rv := HV.out
    clear HC HV HM0
    by_cases hend : k < l.length ∧ k < 200
    · obtain ⟨hl1, hl2⟩ := hend
      obtain ⟨bk, off, rfl, hbk, hcell⟩ := HX.out (by omega)
      have hcc := (B.cell (p := ⟨bk, off + k, none⟩) hbk).trans (hcell k hl1)
      obtain ⟨c, hc⟩ : ∃ c, (l.getD k 0).toNat = c := ⟨_, rfl⟩
      have hc256 : c < 256 := by rw [← hc]; exact (l.getD k 0).toNat_lt
      rw [bv, hc] at hcc
      clear hcell hc HX
      have h6 : c % 6 = 0 ∨ c % 6 = 1 ∨ c % 6 = 2 ∨ c % 6 = 3 ∨ 4 ≤ c % 6 := by omega
      rcases h6 with h6 | h6 | h6 | h6 | h6
      · skip
        obtain ⟨p0, p1, p2, p3, p5, p4, rg, hM, hp, S, R, M⟩ := pl_start HM.out (by omega)
        have HN := Lib.hid hM
        clear hM HM
        have ltc := lt_of_block rc
        obtain ⟨bc0, bc1, bc2, bc3, bc4, bc5, bfc⟩ := block_cells rc
        have bfc0 := bfc 0
        have bfc1 := bfc 1
        have bfc2 := bfc 2
        have bfc3 := bfc 3
        have bfc4 := bfc 4
        have bfc5 := bfc 5
        clear bfc
        have ltv := lt_of_block rv
        go_wp2_with fail
        refine (S _).mono ?_
        rintro e w2 ⟨rfl, g2⟩
        clear bc0 bc1 bc2 bc3 bc4 bc5 bfc0 bfc1 bfc2 bfc3 bfc4 bfc5
        have sw2 := g2.size
        try simp only [World.size_alloc, World.size_setCell, World.size_drew] at sw2
        have rc2 : w2.heap[w1.heap.size]? = some (.cells #[.int .i64 n, .int .i64 wt, .int .i64 b, .int .i64 cp, .bool o, .int .i64 d] 23 (0, 0)) := (g2.block _ (by go_size)).trans (by repeat' (first | (with_reducible assumption) | (with_reducible exact heap_alloc_new _ _) | (with_reducible apply set6_new; with_reducible assumption) | (with_reducible refine (heap_alloc_old _ _ ?_).trans ?_) | (with_reducible refine (set6_old ?_).trans ?_) | omega | go_size))
        have rv2 : w2.heap[(w1.heap.size + 1)]? = some (.cells #[.int .i64 n, .int .i64 wt, .int .i64 b, .int .i64 cp, .bool o, .int .i64 d] 23 (0, 0)) := (g2.block _ (by go_size)).trans (by repeat' (first | (with_reducible assumption) | (with_reducible exact heap_alloc_new _ _) | (with_reducible apply set6_new; with_reducible assumption) | (with_reducible refine (heap_alloc_old _ _ ?_).trans ?_) | (with_reducible refine (set6_old ?_).trans ?_) | omega | go_size))
        have B := chain (W := W) (by go_grown) g2
        have sB := B.size
        clear g2
        clear rc rv
        have ltc2 := lt_of_block rc2
        obtain ⟨bc20, bc21, bc22, bc23, bc24, bc25, bfc2⟩ := block_cells rc2
        have bfc20 := bfc2 0
        have bfc21 := bfc2 1
        have bfc22 := bfc2 2
        have bfc23 := bfc2 3
        have bfc24 := bfc2 4
        have bfc25 := bfc2 5
        clear bfc2
        have ltv2 := lt_of_block rv2
        obtain ⟨bv20, bv21, bv22, bv23, bv24, bv25, bfv2⟩ := block_cells rv2
        have bfv20 := bfv2 0
        have bfv21 := bfv2 1
        have bfv22 := bfv2 2
        have bfv23 := bfv2 3
        have bfv24 := bfv2 4
        have bfv25 := bfv2 5
        clear bfv2
        go_wp2_with fail
        refine (R _).mono ?_
        rintro e w3 ⟨rfl, g3⟩
        clear bc20 bc21 bc22 bc23 bc24 bc25 bfc20 bfc21 bfc22 bfc23 bfc24 bfc25 bv20 bv21 bv22 bv23 bv24 bv25 bfv20 bfv21 bfv22 bfv23 bfv24 bfv25
        have sw3 := g3.size
        try simp only [World.size_alloc, World.size_setCell, World.size_drew] at sw3
        have rc3 : w3.heap[w1.heap.size]? = some (.cells #[.int .i64 p0, .int .i64 p1, .int .i64 p2, .int .i64 p3, .bool p4, .int .i64 p5] 23 (0, 0)) := (g3.block _ (by go_size)).trans (by repeat' (first | (with_reducible assumption) | (with_reducible exact heap_alloc_new _ _) | (with_reducible apply set6_new; with_reducible assumption) | (with_reducible refine (heap_alloc_old _ _ ?_).trans ?_) | (with_reducible refine (set6_old ?_).trans ?_) | omega | go_size))
        have rv3 : w3.heap[(w1.heap.size + 1)]? = some (.cells #[.int .i64 n, .int .i64 wt, .int .i64 b, .int .i64 cp, .bool o, .int .i64 d] 23 (0, 0)) := (g3.block _ (by go_size)).trans (by repeat' (first | (with_reducible assumption) | (with_reducible exact heap_alloc_new _ _) | (with_reducible apply set6_new; with_reducible assumption) | (with_reducible refine (heap_alloc_old _ _ ?_).trans ?_) | (with_reducible refine (set6_old ?_).trans ?_) | omega | go_size))
        have B := chain (W := W) (by go_grown) g3
        have sB := B.size
        clear g3
        clear rc2 rv2
        have ltc3 := lt_of_block rc3
        obtain ⟨bc30, bc31, bc32, bc33, bc34, bc35, bfc3⟩ := block_cells rc3
        have bfc30 := bfc3 0
        have bfc31 := bfc3 1
        have bfc32 := bfc3 2
        have bfc33 := bfc3 3
        have bfc34 := bfc3 4
        have bfc35 := bfc3 5
        clear bfc3
        have ltv3 := lt_of_block rv3
        obtain ⟨bv30, bv31, bv32, bv33, bv34, bv35, bfv3⟩ := block_cells rv3
        have bfv30 := bfv3 0
        have bfv31 := bfv3 1
        have bfv32 := bfv3 2
        have bfv33 := bfv3 3
        have bfv34 := bfv3 4
        have bfv35 := bfv3 5
        clear bfv3
        go_wp2_with fail
        refine (M _).mono ?_
        rintro e w4 ⟨rfl, g4⟩
        clear bc30 bc31 bc32 bc33 bc34 bc35 bfc30 bfc31 bfc32 bfc33 bfc34 bfc35 bv30 bv31 bv32 bv33 bv34 bv35 bfv30 bfv31 bfv32 bfv33 bfv34 bfv35
        have sw4 := g4.size
        try simp only [World.size_alloc, World.size_setCell, World.size_drew] at sw4
        have rc4 : w4.heap[w1.heap.size]? = some (.cells #[.int .i64 p0, .int .i64 p1, .int .i64 p2, .int .i64 p3, .bool p4, .int .i64 p5] 23 (0, 0)) := (g4.block _ (by go_size)).trans (by repeat' (first | (with_reducible assumption) | (with_reducible exact heap_alloc_new _ _) | (with_reducible apply set6_new; with_reducible assumption) | (with_reducible refine (heap_alloc_old _ _ ?_).trans ?_) | (with_reducible refine (set6_old ?_).trans ?_) | omega | go_size))
        have rv4 : w4.heap[(w1.heap.size + 1)]? = some (.cells #[.int .i64 p0, .int .i64 p1, .int .i64 p2, .int .i64 p3, .bool p4, .int .i64 p5] 23 (0, 0)) := (g4.block _ (by go_size)).trans (by repeat' (first | (with_reducible assumption) | (with_reducible exact heap_alloc_new _ _) | (with_reducible apply set6_new; with_reducible assumption) | (with_reducible refine (heap_alloc_old _ _ ?_).trans ?_) | (with_reducible refine (set6_old ?_).trans ?_) | omega | go_size))
        have B := chain (W := W) (by go_grown) g4
        have sB := B.size
        clear g4
        clear rc3 rv3
        go_wp2_with fail
        go_roundw
        case rel => exact ⟨k + 1, p0, p1, p2, p3, p5, p4, by simp <;> omega, by omega, by omega, by omega, HN, by go_grown, Lib.hid rc4, Lib.hid rv4⟩
        case measure => simp [intOf]; omega
      · skip
        obtain ⟨p0, p1, p2, p3, p5, p4, rg, hM, hp, S, R, M⟩ := pl_stop HM.out (by omega)
        have HN := Lib.hid hM
        clear hM HM
        have ltc := lt_of_block rc
        obtain ⟨bc0, bc1, bc2, bc3, bc4, bc5, bfc⟩ := block_cells rc
        have bfc0 := bfc 0
        have bfc1 := bfc 1
        have bfc2 := bfc 2
        have bfc3 := bfc 3
        have bfc4 := bfc 4
        have bfc5 := bfc 5
        clear bfc
        have ltv := lt_of_block rv
        go_wp2_with fail
        refine (S _).mono ?_
        rintro e w2 ⟨rfl, g2⟩
        clear bc0 bc1 bc2 bc3 bc4 bc5 bfc0 bfc1 bfc2 bfc3 bfc4 bfc5
        have sw2 := g2.size
        try simp only [World.size_alloc, World.size_setCell, World.size_drew] at sw2
        have rc2 : w2.heap[w1.heap.size]? = some (.cells #[.int .i64 n, .int .i64 wt, .int .i64 b, .int .i64 cp, .bool o, .int .i64 d] 23 (0, 0)) := (g2.block _ (by go_size)).trans (by repeat' (first | (with_reducible assumption) | (with_reducible exact heap_alloc_new _ _) | (with_reducible apply set6_new; with_reducible assumption) | (with_reducible refine (heap_alloc_old _ _ ?_).trans ?_) | (with_reducible refine (set6_old ?_).trans ?_) | omega | go_size))
        have rv2 : w2.heap[(w1.heap.size + 1)]? = some (.cells #[.int .i64 n, .int .i64 wt, .int .i64 b, .int .i64 cp, .bool o, .int .i64 d] 23 (0, 0)) := (g2.block _ (by go_size)).trans (by repeat' (first | (with_reducible assumption) | (with_reducible exact heap_alloc_new _ _) | (with_reducible apply set6_new; with_reducible assumption) | (with_reducible refine (heap_alloc_old _ _ ?_).trans ?_) | (with_reducible refine (set6_old ?_).trans ?_) | omega | go_size))
        have B := chain (W := W) (by go_grown) g2
        have sB := B.size
        clear g2
        clear rc rv
        have ltc2 := lt_of_block rc2
        obtain ⟨bc20, bc21, bc22, bc23, bc24, bc25, bfc2⟩ := block_cells rc2
        have bfc20 := bfc2 0
        have bfc21 := bfc2 1
        have bfc22 := bfc2 2
        have bfc23 := bfc2 3
        have bfc24 := bfc2 4
        have bfc25 := bfc2 5
        clear bfc2
        have ltv2 := lt_of_block rv2
        obtain ⟨bv20, bv21, bv22, bv23, bv24, bv25, bfv2⟩ := block_cells rv2
        have bfv20 := bfv2 0
        have bfv21 := bfv2 1
        have bfv22 := bfv2 2
        have bfv23 := bfv2 3
        have bfv24 := bfv2 4
        have bfv25 := bfv2 5
        clear bfv2
        go_wp2_with fail
        refine (R _).mono ?_
        rintro e w3 ⟨rfl, g3⟩
        clear bc20 bc21 bc22 bc23 bc24 bc25 bfc20 bfc21 bfc22 bfc23 bfc24 bfc25 bv20 bv21 bv22 bv23 bv24 bv25 bfv20 bfv21 bfv22 bfv23 bfv24 bfv25
        have sw3 := g3.size
        try simp only [World.size_alloc, World.size_setCell, World.size_drew] at sw3
        have rc3 : w3.heap[w1.heap.size]? = some (.cells #[.int .i64 p0, .int .i64 p1, .int .i64 p2, .int .i64 p3, .bool p4, .int .i64 p5] 23 (0, 0)) := (g3.block _ (by go_size)).trans (by repeat' (first | (with_reducible assumption) | (with_reducible exact heap_alloc_new _ _) | (with_reducible apply set6_new; with_reducible assumption) | (with_reducible refine (heap_alloc_old _ _ ?_).trans ?_) | (with_reducible refine (set6_old ?_).trans ?_) | omega | go_size))
        have rv3 : w3.heap[(w1.heap.size + 1)]? = some (.cells #[.int .i64 n, .int .i64 wt, .int .i64 b, .int .i64 cp, .bool o, .int .i64 d] 23 (0, 0)) := (g3.block _ (by go_size)).trans (by repeat' (first | (with_reducible assumption) | (with_reducible exact heap_alloc_new _ _) | (with_reducible apply set6_new; with_reducible assumption) | (with_reducible refine (heap_alloc_old _ _ ?_).trans ?_) | (with_reducible refine (set6_old ?_).trans ?_) | omega | go_size))
        have B := chain (W := W) (by go_grown) g3
        have sB := B.size
        clear g3
        clear rc2 rv2
        have ltc3 := lt_of_block rc3
        obtain ⟨bc30, bc31, bc32, bc33, bc34, bc35, bfc3⟩ := block_cells rc3
        have bfc30 := bfc3 0
        have bfc31 := bfc3 1
        have bfc32 := bfc3 2
        have bfc33 := bfc3 3
        have bfc34 := bfc3 4
        have bfc35 := bfc3 5
        clear bfc3
        have ltv3 := lt_of_block rv3
        obtain ⟨bv30, bv31, bv32, bv33, bv34, bv35, bfv3⟩ := block_cells rv3
        have bfv30 := bfv3 0
        have bfv31 := bfv3 1
        have bfv32 := bfv3 2
        have bfv33 := bfv3 3
        have bfv34 := bfv3 4
        have bfv35 := bfv3 5
        clear bfv3
        go_wp2_with fail
        refine (M _).mono ?_
        rintro e w4 ⟨rfl, g4⟩
        clear bc30 bc31 bc32 bc33 bc34 bc35 bfc30 bfc31 bfc32 bfc33 bfc34 bfc35 bv30 bv31 bv32 bv33 bv34 bv35 bfv30 bfv31 bfv32 bfv33 bfv34 bfv35
        have sw4 := g4.size
        try simp only [World.size_alloc, World.size_setCell, World.size_drew] at sw4
        have rc4 : w4.heap[w1.heap.size]? = some (.cells #[.int .i64 p0, .int .i64 p1, .int .i64 p2, .int .i64 p3, .bool p4, .int .i64 p5] 23 (0, 0)) := (g4.block _ (by go_size)).trans (by repeat' (first | (with_reducible assumption) | (with_reducible exact heap_alloc_new _ _) | (with_reducible apply set6_new; with_reducible assumption) | (with_reducible refine (heap_alloc_old _ _ ?_).trans ?_) | (with_reducible refine (set6_old ?_).trans ?_) | omega | go_size))
        have rv4 : w4.heap[(w1.heap.size + 1)]? = some (.cells #[.int .i64 p0, .int .i64 p1, .int .i64 p2, .int .i64 p3, .bool p4, .int .i64 p5] 23 (0, 0)) := (g4.block _ (by go_size)).trans (by repeat' (first | (with_reducible assumption) | (with_reducible exact heap_alloc_new _ _) | (with_reducible apply set6_new; with_reducible assumption) | (with_reducible refine (heap_alloc_old _ _ ?_).trans ?_) | (with_reducible refine (set6_old ?_).trans ?_) | omega | go_size))
        have B := chain (W := W) (by go_grown) g4
        have sB := B.size
        clear g4
        clear rc3 rv3
        go_wp2_with fail
        go_roundw
        case rel => exact ⟨k + 1, p0, p1, p2, p3, p5, p4, by simp <;> omega, by omega, by omega, by omega, HN, by go_grown, Lib.hid rc4, Lib.hid rv4⟩
        case measure => simp [intOf]; omega
      · skip
        obtain ⟨p0, p1, p2, p3, p5, p4, rg, hM, hp, S, R, M⟩ := pl_double HM.out (by omega)
        have HN := Lib.hid hM
        clear hM HM
        have ltc := lt_of_block rc
        obtain ⟨bc0, bc1, bc2, bc3, bc4, bc5, bfc⟩ := block_cells rc
        have bfc0 := bfc 0
        have bfc1 := bfc 1
        have bfc2 := bfc 2
        have bfc3 := bfc 3
        have bfc4 := bfc 4
        have bfc5 := bfc 5
        clear bfc
        have ltv := lt_of_block rv
        go_wp2_with fail
        refine (S _).mono ?_
        rintro e w2 ⟨rfl, g2⟩
        clear bc0 bc1 bc2 bc3 bc4 bc5 bfc0 bfc1 bfc2 bfc3 bfc4 bfc5
        have sw2 := g2.size
        try simp only [World.size_alloc, World.size_setCell, World.size_drew] at sw2
        have rc2 : w2.heap[w1.heap.size]? = some (.cells #[.int .i64 n, .int .i64 wt, .int .i64 b, .int .i64 cp, .bool o, .int .i64 d] 23 (0, 0)) := (g2.block _ (by go_size)).trans (by repeat' (first | (with_reducible assumption) | (with_reducible exact heap_alloc_new _ _) | (with_reducible apply set6_new; with_reducible assumption) | (with_reducible refine (heap_alloc_old _ _ ?_).trans ?_) | (with_reducible refine (set6_old ?_).trans ?_) | omega | go_size))
        have rv2 : w2.heap[(w1.heap.size + 1)]? = some (.cells #[.int .i64 n, .int .i64 wt, .int .i64 b, .int .i64 cp, .bool o, .int .i64 d] 23 (0, 0)) := (g2.block _ (by go_size)).trans (by repeat' (first | (with_reducible assumption) | (with_reducible exact heap_alloc_new _ _) | (with_reducible apply set6_new; with_reducible assumption) | (with_reducible refine (heap_alloc_old _ _ ?_).trans ?_) | (with_reducible refine (set6_old ?_).trans ?_) | omega | go_size))
        have B := chain (W := W) (by go_grown) g2
        have sB := B.size
        clear g2
        clear rc rv
        have ltc2 := lt_of_block rc2
        obtain ⟨bc20, bc21, bc22, bc23, bc24, bc25, bfc2⟩ := block_cells rc2
        have bfc20 := bfc2 0
        have bfc21 := bfc2 1
        have bfc22 := bfc2 2
        have bfc23 := bfc2 3
        have bfc24 := bfc2 4
        have bfc25 := bfc2 5
        clear bfc2
        have ltv2 := lt_of_block rv2
        obtain ⟨bv20, bv21, bv22, bv23, bv24, bv25, bfv2⟩ := block_cells rv2
        have bfv20 := bfv2 0
        have bfv21 := bfv2 1
        have bfv22 := bfv2 2
        have bfv23 := bfv2 3
        have bfv24 := bfv2 4
        have bfv25 := bfv2 5
        clear bfv2
        go_wp2_with fail
        refine (R _).mono ?_
        rintro e w3 ⟨rfl, g3⟩
        clear bc20 bc21 bc22 bc23 bc24 bc25 bfc20 bfc21 bfc22 bfc23 bfc24 bfc25 bv20 bv21 bv22 bv23 bv24 bv25 bfv20 bfv21 bfv22 bfv23 bfv24 bfv25
        have sw3 := g3.size
        try simp only [World.size_alloc, World.size_setCell, World.size_drew] at sw3
        have rc3 : w3.heap[w1.heap.size]? = some (.cells #[.int .i64 p0, .int .i64 p1, .int .i64 p2, .int .i64 p3, .bool p4, .int .i64 p5] 23 (0, 0)) := (g3.block _ (by go_size)).trans (by repeat' (first | (with_reducible assumption) | (with_reducible exact heap_alloc_new _ _) | (with_reducible apply set6_new; with_reducible assumption) | (with_reducible refine (heap_alloc_old _ _ ?_).trans ?_) | (with_reducible refine (set6_old ?_).trans ?_) | omega | go_size))
        have rv3 : w3.heap[(w1.heap.size + 1)]? = some (.cells #[.int .i64 n, .int .i64 wt, .int .i64 b, .int .i64 cp, .bool o, .int .i64 d] 23 (0, 0)) := (g3.block _ (by go_size)).trans (by repeat' (first | (with_reducible assumption) | (with_reducible exact heap_alloc_new _ _) | (with_reducible apply set6_new; with_reducible assumption) | (with_reducible refine (heap_alloc_old _ _ ?_).trans ?_) | (with_reducible refine (set6_old ?_).trans ?_) | omega | go_size))
        have B := chain (W := W) (by go_grown) g3
        have sB := B.size
        clear g3
        clear rc2 rv2
        have ltc3 := lt_of_block rc3
        obtain ⟨bc30, bc31, bc32, bc33, bc34, bc35, bfc3⟩ := block_cells rc3
        have bfc30 := bfc3 0
        have bfc31 := bfc3 1
        have bfc32 := bfc3 2
        have bfc33 := bfc3 3
        have bfc34 := bfc3 4
        have bfc35 := bfc3 5
        clear bfc3
        have ltv3 := lt_of_block rv3
        obtain ⟨bv30, bv31, bv32, bv33, bv34, bv35, bfv3⟩ := block_cells rv3
        have bfv30 := bfv3 0
        have bfv31 := bfv3 1
        have bfv32 := bfv3 2
        have bfv33 := bfv3 3
        have bfv34 := bfv3 4
        have bfv35 := bfv3 5
        clear bfv3
        go_wp2_with fail
        refine (M _).mono ?_
        rintro e w4 ⟨rfl, g4⟩
        clear bc30 bc31 bc32 bc33 bc34 bc35 bfc30 bfc31 bfc32 bfc33 bfc34 bfc35 bv30 bv31 bv32 bv33 bv34 bv35 bfv30 bfv31 bfv32 bfv33 bfv34 bfv35
        have sw4 := g4.size
        try simp only [World.size_alloc, World.size_setCell, World.size_drew] at sw4
        have rc4 : w4.heap[w1.heap.size]? = some (.cells #[.int .i64 p0, .int .i64 p1, .int .i64 p2, .int .i64 p3, .bool p4, .int .i64 p5] 23 (0, 0)) := (g4.block _ (by go_size)).trans (by repeat' (first | (with_reducible assumption) | (with_reducible exact heap_alloc_new _ _) | (with_reducible apply set6_new; with_reducible assumption) | (with_reducible refine (heap_alloc_old _ _ ?_).trans ?_) | (with_reducible refine (set6_old ?_).trans ?_) | omega | go_size))
        have rv4 : w4.heap[(w1.heap.size + 1)]? = some (.cells #[.int .i64 p0, .int .i64 p1, .int .i64 p2, .int .i64 p3, .bool p4, .int .i64 p5] 23 (0, 0)) := (g4.block _ (by go_size)).trans (by repeat' (first | (with_reducible assumption) | (with_reducible exact heap_alloc_new _ _) | (with_reducible apply set6_new; with_reducible assumption) | (with_reducible refine (heap_alloc_old _ _ ?_).trans ?_) | (with_reducible refine (set6_old ?_).trans ?_) | omega | go_size))
        have B := chain (W := W) (by go_grown) g4
        have sB := B.size
        clear g4
        clear rc3 rv3
        go_wp2_with fail
        go_roundw
        case rel => exact ⟨k + 1, p0, p1, p2, p3, p5, p4, by simp <;> omega, by omega, by omega, by omega, HN, by go_grown, Lib.hid rc4, Lib.hid rv4⟩
        case measure => simp [intOf]; omega
      · skip
        obtain ⟨p0, p1, p2, p3, p5, p4, rg, hM, hp, S, R, M⟩ := pl_reset HM.out (by omega)
        have HN := Lib.hid hM
        clear hM HM
        have ltc := lt_of_block rc
        obtain ⟨bc0, bc1, bc2, bc3, bc4, bc5, bfc⟩ := block_cells rc
        have bfc0 := bfc 0
        have bfc1 := bfc 1
        have bfc2 := bfc 2
        have bfc3 := bfc 3
        have bfc4 := bfc 4
        have bfc5 := bfc 5
        clear bfc
        have ltv := lt_of_block rv
        go_wp2_with fail
        refine (S _).mono ?_
        rintro e w2 ⟨rfl, g2⟩
        clear bc0 bc1 bc2 bc3 bc4 bc5 bfc0 bfc1 bfc2 bfc3 bfc4 bfc5
        have sw2 := g2.size
        try simp only [World.size_alloc, World.size_setCell, World.size_drew] at sw2
        have rc2 : w2.heap[w1.heap.size]? = some (.cells #[.int .i64 n, .int .i64 wt, .int .i64 b, .int .i64 cp, .bool o, .int .i64 d] 23 (0, 0)) := (g2.block _ (by go_size)).trans (by repeat' (first | (with_reducible assumption) | (with_reducible exact heap_alloc_new _ _) | (with_reducible apply set6_new; with_reducible assumption) | (with_reducible refine (heap_alloc_old _ _ ?_).trans ?_) | (with_reducible refine (set6_old ?_).trans ?_) | omega | go_size))
        have rv2 : w2.heap[(w1.heap.size + 1)]? = some (.cells #[.int .i64 n, .int .i64 wt, .int .i64 b, .int .i64 cp, .bool o, .int .i64 d] 23 (0, 0)) := (g2.block _ (by go_size)).trans (by repeat' (first | (with_reducible assumption) | (with_reducible exact heap_alloc_new _ _) | (with_reducible apply set6_new; with_reducible assumption) | (with_reducible refine (heap_alloc_old _ _ ?_).trans ?_) | (with_reducible refine (set6_old ?_).trans ?_) | omega | go_size))
        have B := chain (W := W) (by go_grown) g2
        have sB := B.size
        clear g2
        clear rc rv
        have ltc2 := lt_of_block rc2
        obtain ⟨bc20, bc21, bc22, bc23, bc24, bc25, bfc2⟩ := block_cells rc2
        have bfc20 := bfc2 0
        have bfc21 := bfc2 1
        have bfc22 := bfc2 2
        have bfc23 := bfc2 3
        have bfc24 := bfc2 4
        have bfc25 := bfc2 5
        clear bfc2
        have ltv2 := lt_of_block rv2
        obtain ⟨bv20, bv21, bv22, bv23, bv24, bv25, bfv2⟩ := block_cells rv2
        have bfv20 := bfv2 0
        have bfv21 := bfv2 1
        have bfv22 := bfv2 2
        have bfv23 := bfv2 3
        have bfv24 := bfv2 4
        have bfv25 := bfv2 5
        clear bfv2
        go_wp2_with fail
        refine (R _).mono ?_
        rintro e w3 ⟨rfl, g3⟩
        clear bc20 bc21 bc22 bc23 bc24 bc25 bfc20 bfc21 bfc22 bfc23 bfc24 bfc25 bv20 bv21 bv22 bv23 bv24 bv25 bfv20 bfv21 bfv22 bfv23 bfv24 bfv25
        have sw3 := g3.size
        try simp only [World.size_alloc, World.size_setCell, World.size_drew] at sw3
        have rc3 : w3.heap[w1.heap.size]? = some (.cells #[.int .i64 p0, .int .i64 p1, .int .i64 p2, .int .i64 p3, .bool p4, .int .i64 p5] 23 (0, 0)) := (g3.block _ (by go_size)).trans (by repeat' (first | (with_reducible assumption) | (with_reducible exact heap_alloc_new _ _) | (with_reducible apply set6_new; with_reducible assumption) | (with_reducible refine (heap_alloc_old _ _ ?_).trans ?_) | (with_reducible refine (set6_old ?_).trans ?_) | omega | go_size))
        have rv3 : w3.heap[(w1.heap.size + 1)]? = some (.cells #[.int .i64 n, .int .i64 wt, .int .i64 b, .int .i64 cp, .bool o, .int .i64 d] 23 (0, 0)) := (g3.block _ (by go_size)).trans (by repeat' (first | (with_reducible assumption) | (with_reducible exact heap_alloc_new _ _) | (with_reducible apply set6_new; with_reducible assumption) | (with_reducible refine (heap_alloc_old _ _ ?_).trans ?_) | (with_reducible refine (set6_old ?_).trans ?_) | omega | go_size))
        have B := chain (W := W) (by go_grown) g3
        have sB := B.size
        clear g3
        clear rc2 rv2
        have ltc3 := lt_of_block rc3
        obtain ⟨bc30, bc31, bc32, bc33, bc34, bc35, bfc3⟩ := block_cells rc3
        have bfc30 := bfc3 0
        have bfc31 := bfc3 1
        have bfc32 := bfc3 2
        have bfc33 := bfc3 3
        have bfc34 := bfc3 4
        have bfc35 := bfc3 5
        clear bfc3
        have ltv3 := lt_of_block rv3
        obtain ⟨bv30, bv31, bv32, bv33, bv34, bv35, bfv3⟩ := block_cells rv3
        have bfv30 := bfv3 0
        have bfv31 := bfv3 1
        have bfv32 := bfv3 2
        have bfv33 := bfv3 3
        have bfv34 := bfv3 4
        have bfv35 := bfv3 5
        clear bfv3
        go_wp2_with fail
        refine (M _).mono ?_
        rintro e w4 ⟨rfl, g4⟩
        clear bc30 bc31 bc32 bc33 bc34 bc35 bfc30 bfc31 bfc32 bfc33 bfc34 bfc35 bv30 bv31 bv32 bv33 bv34 bv35 bfv30 bfv31 bfv32 bfv33 bfv34 bfv35
        have sw4 := g4.size
        try simp only [World.size_alloc, World.size_setCell, World.size_drew] at sw4
        have rc4 : w4.heap[w1.heap.size]? = some (.cells #[.int .i64 p0, .int .i64 p1, .int .i64 p2, .int .i64 p3, .bool p4, .int .i64 p5] 23 (0, 0)) := (g4.block _ (by go_size)).trans (by repeat' (first | (with_reducible assumption) | (with_reducible exact heap_alloc_new _ _) | (with_reducible apply set6_new; with_reducible assumption) | (with_reducible refine (heap_alloc_old _ _ ?_).trans ?_) | (with_reducible refine (set6_old ?_).trans ?_) | omega | go_size))
        have rv4 : w4.heap[(w1.heap.size + 1)]? = some (.cells #[.int .i64 p0, .int .i64 p1, .int .i64 p2, .int .i64 p3, .bool p4, .int .i64 p5] 23 (0, 0)) := (g4.block _ (by go_size)).trans (by repeat' (first | (with_reducible assumption) | (with_reducible exact heap_alloc_new _ _) | (with_reducible apply set6_new; with_reducible assumption) | (with_reducible refine (heap_alloc_old _ _ ?_).trans ?_) | (with_reducible refine (set6_old ?_).trans ?_) | omega | go_size))
        have B := chain (W := W) (by go_grown) g4
        have sB := B.size
        clear g4
        clear rc3 rv3
        go_wp2_with fail
        go_roundw
        case rel => exact ⟨k + 1, p0, p1, p2, p3, p5, p4, by simp <;> omega, by omega, by omega, by omega, HN, by go_grown, Lib.hid rc4, Lib.hid rv4⟩
        case measure => simp [intOf]; omega
      · skip
        obtain ⟨p0, p1, p2, p3, p5, p4, rg, hM, hp, S, R, M⟩ := pl_tick HM.out (by omega)
        have HN := Lib.hid hM
        clear hM HM
        have ltc := lt_of_block rc
        obtain ⟨bc0, bc1, bc2, bc3, bc4, bc5, bfc⟩ := block_cells rc
        have bfc0 := bfc 0
        have bfc1 := bfc 1
        have bfc2 := bfc 2
        have bfc3 := bfc 3
        have bfc4 := bfc 4
        have bfc5 := bfc 5
        clear bfc
        have ltv := lt_of_block rv
        go_wp2_with fail
        refine (S _).mono ?_
        rintro e w2 ⟨rfl, g2⟩
        clear bc0 bc1 bc2 bc3 bc4 bc5 bfc0 bfc1 bfc2 bfc3 bfc4 bfc5
        have sw2 := g2.size
        try simp only [World.size_alloc, World.size_setCell, World.size_drew] at sw2
        have rc2 : w2.heap[w1.heap.size]? = some (.cells #[.int .i64 n, .int .i64 wt, .int .i64 b, .int .i64 cp, .bool o, .int .i64 d] 23 (0, 0)) := (g2.block _ (by go_size)).trans (by repeat' (first | (with_reducible assumption) | (with_reducible exact heap_alloc_new _ _) | (with_reducible apply set6_new; with_reducible assumption) | (with_reducible refine (heap_alloc_old _ _ ?_).trans ?_) | (with_reducible refine (set6_old ?_).trans ?_) | omega | go_size))
        have rv2 : w2.heap[(w1.heap.size + 1)]? = some (.cells #[.int .i64 n, .int .i64 wt, .int .i64 b, .int .i64 cp, .bool o, .int .i64 d] 23 (0, 0)) := (g2.block _ (by go_size)).trans (by repeat' (first | (with_reducible assumption) | (with_reducible exact heap_alloc_new _ _) | (with_reducible apply set6_new; with_reducible assumption) | (with_reducible refine (heap_alloc_old _ _ ?_).trans ?_) | (with_reducible refine (set6_old ?_).trans ?_) | omega | go_size))
        have B := chain (W := W) (by go_grown) g2
        have sB := B.size
        clear g2
        clear rc rv
        have ltc2 := lt_of_block rc2
        obtain ⟨bc20, bc21, bc22, bc23, bc24, bc25, bfc2⟩ := block_cells rc2
        have bfc20 := bfc2 0
        have bfc21 := bfc2 1
        have bfc22 := bfc2 2
        have bfc23 := bfc2 3
        have bfc24 := bfc2 4
        have bfc25 := bfc2 5
        clear bfc2
        have ltv2 := lt_of_block rv2
        obtain ⟨bv20, bv21, bv22, bv23, bv24, bv25, bfv2⟩ := block_cells rv2
        have bfv20 := bfv2 0
        have bfv21 := bfv2 1
        have bfv22 := bfv2 2
        have bfv23 := bfv2 3
        have bfv24 := bfv2 4
        have bfv25 := bfv2 5
        clear bfv2
        go_wp2_with fail
        refine (R _).mono ?_
        rintro e w3 ⟨rfl, g3⟩
        clear bc20 bc21 bc22 bc23 bc24 bc25 bfc20 bfc21 bfc22 bfc23 bfc24 bfc25 bv20 bv21 bv22 bv23 bv24 bv25 bfv20 bfv21 bfv22 bfv23 bfv24 bfv25
        have sw3 := g3.size
        try simp only [World.size_alloc, World.size_setCell, World.size_drew] at sw3
        have rc3 : w3.heap[w1.heap.size]? = some (.cells #[.int .i64 p0, .int .i64 p1, .int .i64 p2, .int .i64 p3, .bool p4, .int .i64 p5] 23 (0, 0)) := (g3.block _ (by go_size)).trans (by repeat' (first | (with_reducible assumption) | (with_reducible exact heap_alloc_new _ _) | (with_reducible apply set6_new; with_reducible assumption) | (with_reducible refine (heap_alloc_old _ _ ?_).trans ?_) | (with_reducible refine (set6_old ?_).trans ?_) | omega | go_size))
        have rv3 : w3.heap[(w1.heap.size + 1)]? = some (.cells #[.int .i64 n, .int .i64 wt, .int .i64 b, .int .i64 cp, .bool o, .int .i64 d] 23 (0, 0)) := (g3.block _ (by go_size)).trans (by repeat' (first | (with_reducible assumption) | (with_reducible exact heap_alloc_new _ _) | (with_reducible apply set6_new; with_reducible assumption) | (with_reducible refine (heap_alloc_old _ _ ?_).trans ?_) | (with_reducible refine (set6_old ?_).trans ?_) | omega | go_size))
        have B := chain (W := W) (by go_grown) g3
        have sB := B.size
        clear g3
        clear rc2 rv2
        have ltc3 := lt_of_block rc3
        obtain ⟨bc30, bc31, bc32, bc33, bc34, bc35, bfc3⟩ := block_cells rc3
        have bfc30 := bfc3 0
        have bfc31 := bfc3 1
        have bfc32 := bfc3 2
        have bfc33 := bfc3 3
        have bfc34 := bfc3 4
        have bfc35 := bfc3 5
        clear bfc3
        have ltv3 := lt_of_block rv3
        obtain ⟨bv30, bv31, bv32, bv33, bv34, bv35, bfv3⟩ := block_cells rv3
        have bfv30 := bfv3 0
        have bfv31 := bfv3 1
        have bfv32 := bfv3 2
        have bfv33 := bfv3 3
        have bfv34 := bfv3 4
        have bfv35 := bfv3 5
        clear bfv3
        go_wp2_with fail
        refine (M _).mono ?_
        rintro e w4 ⟨rfl, g4⟩
        clear bc30 bc31 bc32 bc33 bc34 bc35 bfc30 bfc31 bfc32 bfc33 bfc34 bfc35 bv30 bv31 bv32 bv33 bv34 bv35 bfv30 bfv31 bfv32 bfv33 bfv34 bfv35
        have sw4 := g4.size
        try simp only [World.size_alloc, World.size_setCell, World.size_drew] at sw4
        have rc4 : w4.heap[w1.heap.size]? = some (.cells #[.int .i64 p0, .int .i64 p1, .int .i64 p2, .int .i64 p3, .bool p4, .int .i64 p5] 23 (0, 0)) := (g4.block _ (by go_size)).trans (by repeat' (first | (with_reducible assumption) | (with_reducible exact heap_alloc_new _ _) | (with_reducible apply set6_new; with_reducible assumption) | (with_reducible refine (heap_alloc_old _ _ ?_).trans ?_) | (with_reducible refine (set6_old ?_).trans ?_) | omega | go_size))
        have rv4 : w4.heap[(w1.heap.size + 1)]? = some (.cells #[.int .i64 p0, .int .i64 p1, .int .i64 p2, .int .i64 p3, .bool p4, .int .i64 p5] 23 (0, 0)) := (g4.block _ (by go_size)).trans (by repeat' (first | (with_reducible assumption) | (with_reducible exact heap_alloc_new _ _) | (with_reducible apply set6_new; with_reducible assumption) | (with_reducible refine (heap_alloc_old _ _ ?_).trans ?_) | (with_reducible refine (set6_old ?_).trans ?_) | omega | go_size))
        have B := chain (W := W) (by go_grown) g4
        have sB := B.size
        clear g4
        clear rc3 rv3
        go_wp2_with fail
        go_roundw
        case rel => exact ⟨k + 1, p0, p1, p2, p3, p5, p4, by simp <;> omega, by omega, by omega, by omega, HN, by go_grown, Lib.hid rc4, Lib.hid rv4⟩
        case measure => simp [intOf]; omega
    · go_wp2_with (go_at_call 13; refine (up (awake_any _) (by go_grown : Below W.heap.size W _)).mono ?_; rintro e w9 ⟨rfl, B⟩)
      all_goals
        go_ret
        exact ⟨rfl, by go_grown⟩
theorem plays_any (bs ms : Int) (sv : Value) (l : List UInt8) (W : World) (h0 : (Lit.int .i64 bs).wf = true) (h1 : (Lit.int .i64 ms).wf = true) (h : Rd W sv l) : Calls Try.prog 5 #[.int .i64 bs, .int .i64 ms, sv] W fun e w' => e = .returned (.bool true) ∧ Below W.heap.size W w' := by
  by_cases hm : MayP ⟨0, bs, bs, ms, false, 0⟩
  · exact plays_yes bs ms sv l hm W h
  · exact plays_no bs ms sv hm W
end Go.Proofs.Ytfodafabkmepbaa
