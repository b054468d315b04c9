/- The walk of the law ClockRings. Written by wip/tools/gen06f.py. -/
import Derived.Test.YtgopmffekhhmjaaK06e
namespace Go.Proofs.Ytgopmffekhhmjaa
open Go.RowKit
set_option linter.unusedVariables false
set_option linter.unusedSimpArgs false
theorem rt1 {n wt b cp d : Int} {o : Bool} (hm : MayP ⟨n, wt, b, cp, o, d⟩) (h2 : n ≤ 1099511627176) (k : Nat) (h1 : wt ≤ 500) (hk0 : (k : Int) ≤ wt + 2) (hk : (k : Int) + 1 < wt) (w : World) : Calls Try.prog 16 #[.agg #[.int .i64 (n + (k : Int)), .int .i64 wt, .int .i64 b, .int .i64 cp, .bool true, .int .i64 (n + wt)]] w fun e w' => e = .returned (.tuple #[.agg #[.int .i64 (n + (k : Int) + 1), .int .i64 wt, .int .i64 b, .int .i64 cp, .bool true, .int .i64 (n + wt)], .bool false, .int .i64 0]) ∧ Below w.heap.size w w' := by
  unfold MayP at hm
  simp only [] at hm
  obtain ⟨m1, m2, m3, m4, m5, m6, m7, m8⟩ := hm
  have t := tick_yes ⟨(n + (k : Int)), wt, b, cp, true, (n + wt)⟩ (by unfold MayP; simp; try omega) (by simp; omega) w
  have ne : ¬ (n + wt = n + (k : Int) + 1) := by omega
  simpa [tickC, ringsC, ckV, ne] using t
theorem rt2 {n wt b cp d : Int} {o : Bool} (hm : MayP ⟨n, wt, b, cp, o, d⟩) (h2 : n ≤ 1099511627176) (k : Nat) (h1 : wt ≤ 500) (hk0 : (k : Int) ≤ wt + 2) (hk : (k : Int) + 1 = wt) (w : World) : Calls Try.prog 16 #[.agg #[.int .i64 (n + (k : Int)), .int .i64 wt, .int .i64 b, .int .i64 cp, .bool true, .int .i64 (n + wt)]] w fun e w' => e = .returned (.tuple #[.agg #[.int .i64 (n + (k : Int) + 1), .int .i64 wt, .int .i64 b, .int .i64 cp, .bool false, .int .i64 0], .bool true, .int .i64 0]) ∧ Below w.heap.size w w' := by
  unfold MayP at hm
  simp only [] at hm
  obtain ⟨m1, m2, m3, m4, m5, m6, m7, m8⟩ := hm
  have t := tick_yes ⟨(n + (k : Int)), wt, b, cp, true, (n + wt)⟩ (by unfold MayP; simp; try omega) (by simp; omega) w
  have ne : n + wt = n + (k : Int) + 1 := by omega
  simpa [tickC, ringsC, ckV, ne] using t
theorem rt3 {n wt b cp d : Int} {o : Bool} (hm : MayP ⟨n, wt, b, cp, o, d⟩) (h2 : n ≤ 1099511627176) (k : Nat) (h1 : wt ≤ 500) (hk0 : (k : Int) ≤ wt + 2) (hk : wt ≤ (k : Int)) (w : World) : Calls Try.prog 16 #[.agg #[.int .i64 (n + (k : Int)), .int .i64 wt, .int .i64 b, .int .i64 cp, .bool false, .int .i64 0]] w fun e w' => e = .returned (.tuple #[.agg #[.int .i64 (n + (k : Int) + 1), .int .i64 wt, .int .i64 b, .int .i64 cp, .bool false, .int .i64 0], .bool false, .int .i64 0]) ∧ Below w.heap.size w w' := by
  unfold MayP at hm
  simp only [] at hm
  obtain ⟨m1, m2, m3, m4, m5, m6, m7, m8⟩ := hm
  have t := tick_yes ⟨(n + (k : Int)), wt, b, cp, false, 0⟩ (by unfold MayP; simp; try omega) (by simp; omega) w
  simpa [tickC, ringsC, ckV] using t
set_option maxRecDepth 100000 in
set_option maxHeartbeats 1000000 in
theorem rings_no (c : Ck) (hm : ¬ MayP c) (W : World) : Calls Try.prog 6 #[ckV c] W fun e w' => e = .returned (.bool true) ∧ Below W.heap.size W w' := by
  have S := start_no c hm
  obtain ⟨n, wt, b, cp, o, d⟩ := c
  simp only [ckV, zeroC] at S
  unfold ckV
  clear hm
  go_enter Try.func6, Try.ntmps6
  go_wp2_with fail
  refine (S _).mono ?_
  rintro e w1 ⟨rfl, g1⟩
  have sw1 := g1.size
  try simp only [World.size_alloc, World.size_setCell, World.size_drew] at sw1
  have rc : w1.heap[W.heap.size]? = some (.cells #[.int .i64 n, .int .i64 wt, .int .i64 b, .int .i64 cp, .bool o, .int .i64 d] 23 (0, 0)) := (g1.block _ (by go_size)).trans (by repeat' (first | (with_reducible assumption) | (with_reducible exact heap_alloc_new _ _) | (with_reducible apply set6_new; with_reducible assumption) | (with_reducible refine (heap_alloc_old _ _ ?_).trans ?_) | (with_reducible refine (set6_old ?_).trans ?_) | go_size))
  have B := chain (W := W) (by go_grown) g1
  have sB := B.size
  clear g1
  have ltc := lt_of_block rc
  obtain ⟨bc0, bc1, bc2, bc3, bc4, bc5, bfc⟩ := block_cells rc
  have bfc0 := bfc 0
  have bfc1 := bfc 1
  have bfc2 := bfc 2
  have bfc3 := bfc 3
  have bfc4 := bfc 4
  have bfc5 := bfc 5
  clear bfc
  go_wp2_with (go_at_call 13; refine (up (awake_any _) (by go_grown : Below W.heap.size W _)).mono ?_; rintro e w9 ⟨rfl, B⟩)
  go_ret
  exact ⟨rfl, by go_grown⟩
set_option maxRecDepth 100000 in
set_option maxHeartbeats 1000000 in
theorem rings_near (c : Ck) (hm : MayP c) (h1 : c.wait ≤ 500) (h2 : c.now ≤ 1099511627176) (W : World) : Calls Try.prog 6 #[ckV c] W fun e w' => e = .returned (.bool true) ∧ Below W.heap.size W w' := by
  have S := start_yes c hm
  obtain ⟨n, wt, b, cp, o, d⟩ := c
  simp only [ckV] at S h1 h2
  have HM := Lib.hid hm
  unfold MayP at hm
  simp only [] at hm
  obtain ⟨m1, m2, m3, m4, m5, m6, m7, m8⟩ := hm
  clear m7 m8
  unfold ckV
  go_enter Try.func6, Try.ntmps6
  go_wp2_with fail
  refine (S _).mono ?_
  rintro e w1 ⟨rfl, g1⟩
  have sw1 := g1.size
  try simp only [World.size_alloc, World.size_setCell, World.size_drew] at sw1
  have rc : w1.heap[W.heap.size]? = some (.cells #[.int .i64 n, .int .i64 wt, .int .i64 b, .int .i64 cp, .bool o, .int .i64 d] 23 (0, 0)) := (g1.block _ (by go_size)).trans (by repeat' (first | (with_reducible assumption) | (with_reducible exact heap_alloc_new _ _) | (with_reducible apply set6_new; with_reducible assumption) | (with_reducible refine (heap_alloc_old _ _ ?_).trans ?_) | (with_reducible refine (set6_old ?_).trans ?_) | go_size))
  have B := chain (W := W) (by go_grown) g1
  have sB := B.size
  clear g1
  have ltc := lt_of_block rc
  obtain ⟨bc0, bc1, bc2, bc3, bc4, bc5, bfc⟩ := block_cells rc
  have bfc0 := bfc 0
  have bfc1 := bfc 1
  have bfc2 := bfc 2
  have bfc3 := bfc 3
  have bfc4 := bfc 4
  have bfc5 := bfc 5
  clear bfc
  go_wp2_with fail
  go_loopw [4] (fun i wr => ∃ k : Nat, i = .int .i64 ((k : Int) + 1) ∧ (k : Int) ≤ wt + 3 ∧ Below W.heap.size W wr ∧ Hid (wr.heap[W.heap.size]? = some (.cells #[.int .i64 (n + (k : Int)), .int .i64 wt, .int .i64 b, .int .i64 cp, .bool (decide ((k : Int) < wt)), .int .i64 (if (k : Int) < wt then n + wt else 0)] 23 (0, 0))))
    (fun i _ => 600 - (intOf i).toNat)
  case atStart =>
    refine ⟨0, rfl, by omega, by go_grown, Lib.hid ?_⟩
    have p : (0 : Int) < wt := by omega
    have q := set6_new (u0 := .int .i64 n) (u1 := .int .i64 wt) (u2 := .int .i64 b) (u3 := .int .i64 cp) (u4 := .bool true) (u5 := .int .i64 (n + wt)) rc
    simpa [p] using q
  case round =>
    clear rc B sB ltc
    obtain ⟨k, rfl, hk, B, HC⟩ := hrel
    have sB := B.size
    have hc := HC.out
    clear HC
    by_cases hk3 : (k : Int) ≤ wt + 2
    · rcases Int.lt_or_le (k : Int) wt with hw | hw
      · rcases Int.lt_or_le ((k : Int) + 1) wt with hv | hv
        · skip
          have T := rt1 HM.out h2 k h1 hk3 (by omega)
          have rc : wr.heap[W.heap.size]? = some (.cells #[.int .i64 (n + (k : Int)), .int .i64 wt, .int .i64 b, .int .i64 cp, .bool true, .int .i64 (n + wt)] 23 (0, 0)) := by simpa [decide_eq_true, hw] using hc
          clear hc
          have ltc := lt_of_block rc
          obtain ⟨bc0, bc1, bc2, bc3, bc4, bc5, bfc⟩ := block_cells rc
          have bfc0 := bfc 0
          have bfc1 := bfc 1
          have bfc2 := bfc 2
          have bfc3 := bfc 3
          have bfc4 := bfc 4
          have bfc5 := bfc 5
          clear bfc
          go_wp2_with fail
          refine (T _).mono ?_
          rintro e w2 ⟨rfl, g2⟩
          clear bc0 bc1 bc2 bc3 bc4 bc5 bfc0 bfc1 bfc2 bfc3 bfc4 bfc5
          have sw2 := g2.size
          try simp only [World.size_alloc, World.size_setCell, World.size_drew] at sw2
          have rq : w2.heap[W.heap.size]? = some (.cells #[.int .i64 (n + (k : Int)), .int .i64 wt, .int .i64 b, .int .i64 cp, .bool true, .int .i64 (n + wt)] 23 (0, 0)) := (g2.block _ (by go_size)).trans (by repeat' (first | (with_reducible assumption) | (with_reducible exact heap_alloc_new _ _) | (with_reducible apply set6_new; with_reducible assumption) | (with_reducible refine (heap_alloc_old _ _ ?_).trans ?_) | (with_reducible refine (set6_old ?_).trans ?_) | go_size))
          have B := chain (W := W) (by go_grown) g2
          have sB := B.size
          clear g2
          clear rc
          have ltq := lt_of_block rq
          obtain ⟨bq0, bq1, bq2, bq3, bq4, bq5, bfq⟩ := block_cells rq
          have bfq0 := bfq 0
          have bfq1 := bfq 1
          have bfq2 := bfq 2
          have bfq3 := bfq 3
          have bfq4 := bfq 4
          have bfq5 := bfq 5
          clear bfq
          go_wp2_with fail
          all_goals
            first | (exfalso; omega) | skip
            go_roundw
            case rel =>
              have p1 : (decide (((k + 1 : Nat) : Int) < wt)) = true := by simp; omega
              have p2 : (if ((k + 1 : Nat) : Int) < wt then n + wt else 0) = (n + wt) := by first | exact if_pos (by omega) | exact if_neg (by omega)
              have p3 : n + ((k + 1 : Nat) : Int) = n + (k : Int) + 1 := by omega
              refine ⟨k + 1, by simp <;> omega, by omega, by go_grown, Lib.hid ?_⟩
              rw [p1, p2, p3]
              repeat' (first | (with_reducible assumption) | (with_reducible exact heap_alloc_new _ _) | (with_reducible apply set6_new; with_reducible assumption) | (with_reducible refine (heap_alloc_old _ _ ?_).trans ?_) | (with_reducible refine (set6_old ?_).trans ?_) | go_size)
            case measure => simp [intOf]; omega
        · skip
          have T := rt2 HM.out h2 k h1 hk3 (by omega)
          have rc : wr.heap[W.heap.size]? = some (.cells #[.int .i64 (n + (k : Int)), .int .i64 wt, .int .i64 b, .int .i64 cp, .bool true, .int .i64 (n + wt)] 23 (0, 0)) := by simpa [decide_eq_true, hw] using hc
          clear hc
          have ltc := lt_of_block rc
          obtain ⟨bc0, bc1, bc2, bc3, bc4, bc5, bfc⟩ := block_cells rc
          have bfc0 := bfc 0
          have bfc1 := bfc 1
          have bfc2 := bfc 2
          have bfc3 := bfc 3
          have bfc4 := bfc 4
          have bfc5 := bfc 5
          clear bfc
          go_wp2_with fail
          refine (T _).mono ?_
          rintro e w2 ⟨rfl, g2⟩
          clear bc0 bc1 bc2 bc3 bc4 bc5 bfc0 bfc1 bfc2 bfc3 bfc4 bfc5
          have sw2 := g2.size
          try simp only [World.size_alloc, World.size_setCell, World.size_drew] at sw2
          have rq : w2.heap[W.heap.size]? = some (.cells #[.int .i64 (n + (k : Int)), .int .i64 wt, .int .i64 b, .int .i64 cp, .bool true, .int .i64 (n + wt)] 23 (0, 0)) := (g2.block _ (by go_size)).trans (by repeat' (first | (with_reducible assumption) | (with_reducible exact heap_alloc_new _ _) | (with_reducible apply set6_new; with_reducible assumption) | (with_reducible refine (heap_alloc_old _ _ ?_).trans ?_) | (with_reducible refine (set6_old ?_).trans ?_) | go_size))
          have B := chain (W := W) (by go_grown) g2
          have sB := B.size
          clear g2
          clear rc
          have ltq := lt_of_block rq
          obtain ⟨bq0, bq1, bq2, bq3, bq4, bq5, bfq⟩ := block_cells rq
          have bfq0 := bfq 0
          have bfq1 := bfq 1
          have bfq2 := bfq 2
          have bfq3 := bfq 3
          have bfq4 := bfq 4
          have bfq5 := bfq 5
          clear bfq
          go_wp2_with fail
          all_goals
            first | (exfalso; omega) | skip
            go_roundw
            case rel =>
              have p1 : (decide (((k + 1 : Nat) : Int) < wt)) = false := by simp; omega
              have p2 : (if ((k + 1 : Nat) : Int) < wt then n + wt else 0) = 0 := by first | exact if_pos (by omega) | exact if_neg (by omega)
              have p3 : n + ((k + 1 : Nat) : Int) = n + (k : Int) + 1 := by omega
              refine ⟨k + 1, by simp <;> omega, by omega, by go_grown, Lib.hid ?_⟩
              rw [p1, p2, p3]
              repeat' (first | (with_reducible assumption) | (with_reducible exact heap_alloc_new _ _) | (with_reducible apply set6_new; with_reducible assumption) | (with_reducible refine (heap_alloc_old _ _ ?_).trans ?_) | (with_reducible refine (set6_old ?_).trans ?_) | go_size)
            case measure => simp [intOf]; omega
      · skip
        have T := rt3 HM.out h2 k h1 hk3 (by omega)
        have rc : wr.heap[W.heap.size]? = some (.cells #[.int .i64 (n + (k : Int)), .int .i64 wt, .int .i64 b, .int .i64 cp, .bool false, .int .i64 0] 23 (0, 0)) := by simpa [show ¬ ((k : Int) < wt) from by omega] using hc
        clear hc
        have ltc := lt_of_block rc
        obtain ⟨bc0, bc1, bc2, bc3, bc4, bc5, bfc⟩ := block_cells rc
        have bfc0 := bfc 0
        have bfc1 := bfc 1
        have bfc2 := bfc 2
        have bfc3 := bfc 3
        have bfc4 := bfc 4
        have bfc5 := bfc 5
        clear bfc
        go_wp2_with fail
        refine (T _).mono ?_
        rintro e w2 ⟨rfl, g2⟩
        clear bc0 bc1 bc2 bc3 bc4 bc5 bfc0 bfc1 bfc2 bfc3 bfc4 bfc5
        have sw2 := g2.size
        try simp only [World.size_alloc, World.size_setCell, World.size_drew] at sw2
        have rq : w2.heap[W.heap.size]? = some (.cells #[.int .i64 (n + (k : Int)), .int .i64 wt, .int .i64 b, .int .i64 cp, .bool false, .int .i64 0] 23 (0, 0)) := (g2.block _ (by go_size)).trans (by repeat' (first | (with_reducible assumption) | (with_reducible exact heap_alloc_new _ _) | (with_reducible apply set6_new; with_reducible assumption) | (with_reducible refine (heap_alloc_old _ _ ?_).trans ?_) | (with_reducible refine (set6_old ?_).trans ?_) | go_size))
        have B := chain (W := W) (by go_grown) g2
        have sB := B.size
        clear g2
        clear rc
        have ltq := lt_of_block rq
        obtain ⟨bq0, bq1, bq2, bq3, bq4, bq5, bfq⟩ := block_cells rq
        have bfq0 := bfq 0
        have bfq1 := bfq 1
        have bfq2 := bfq 2
        have bfq3 := bfq 3
        have bfq4 := bfq 4
        have bfq5 := bfq 5
        clear bfq
        have ne3 : ((k : Int) + 1 == wt) = false := by simp; omega
        have le3 : wt ≤ (k : Int) + 1 := by omega
        go_wp2_with fail
        all_goals
          first | (exfalso; omega) | skip
          go_roundw
          case rel =>
            have p1 : (decide (((k + 1 : Nat) : Int) < wt)) = false := by simp; omega
            have p2 : (if ((k + 1 : Nat) : Int) < wt then n + wt else 0) = 0 := by first | exact if_pos (by omega) | exact if_neg (by omega)
            have p3 : n + ((k + 1 : Nat) : Int) = n + (k : Int) + 1 := by omega
            refine ⟨k + 1, by simp <;> omega, by omega, by go_grown, Lib.hid ?_⟩
            rw [p1, p2, p3]
            repeat' (first | (with_reducible assumption) | (with_reducible exact heap_alloc_new _ _) | (with_reducible apply set6_new; with_reducible assumption) | (with_reducible refine (heap_alloc_old _ _ ?_).trans ?_) | (with_reducible refine (set6_old ?_).trans ?_) | go_size)
          case measure => simp [intOf]; omega
    · skip
      have rc : wr.heap[W.heap.size]? = some (.cells #[.int .i64 (n + (k : Int)), .int .i64 wt, .int .i64 b, .int .i64 cp, .bool false, .int .i64 0] 23 (0, 0)) := by simpa [show ¬ ((k : Int) < wt) from by omega] using hc
      clear hc
      have ltc := lt_of_block rc
      obtain ⟨bc0, bc1, bc2, bc3, bc4, bc5, bfc⟩ := block_cells rc
      have bfc0 := bfc 0
      have bfc1 := bfc 1
      have bfc2 := bfc 2
      have bfc3 := bfc 3
      have bfc4 := bfc 4
      have bfc5 := bfc 5
      clear bfc
      go_wp2_with (go_at_call 13; refine (up (awake_any _) (by go_grown : Below W.heap.size W _)).mono ?_; rintro e w9 ⟨rfl, B⟩)
      go_ret
      exact ⟨rfl, by go_grown⟩
end Go.Proofs.Ytgopmffekhhmjaa
