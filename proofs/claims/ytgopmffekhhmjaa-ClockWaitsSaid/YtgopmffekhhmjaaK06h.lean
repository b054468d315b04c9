/- The walk of the law ClockWaits. Written by wip/tools/gen06h.py. -/
import Derived.Test.YtgopmffekhhmjaaK06e
import Derived.Test.YtgopmffekhhmjaaK06r
namespace Go.Proofs.Ytgopmffekhhmjaa
open Go.RowKit
set_option linter.unusedVariables false
set_option linter.unusedSimpArgs false
theorem wait_double (n wt b cp d : Int) (o : Bool) (hm : MayP ⟨n, wt, b, cp, o, d⟩) : ∃ w2 lf : Int, ((w2 = 2 * wt ∧ 2 * wt < cp) ∨ (w2 = cp ∧ cp ≤ 2 * wt)) ∧ 1 ≤ wt ∧ wt ≤ cp ∧ cp ≤ 1048576 ∧
    (∀ w, Calls Try.prog 17 #[.agg #[.int .i64 n, .int .i64 wt, .int .i64 b, .int .i64 cp, .bool o, .int .i64 d]] w fun e w' => e = .returned (.tuple #[.agg #[.int .i64 n, .int .i64 w2, .int .i64 b, .int .i64 cp, .bool o, .int .i64 d], .int .i64 0]) ∧ Below w.heap.size w w') ∧
    (∀ w, Calls Try.prog 12 #[.agg #[.int .i64 n, .int .i64 wt, .int .i64 b, .int .i64 cp, .bool o, .int .i64 d]] w fun e w' => e = .returned (.int .i64 lf) ∧ Below w.heap.size w w') ∧
    (∀ w, Calls Try.prog 12 #[.agg #[.int .i64 n, .int .i64 w2, .int .i64 b, .int .i64 cp, .bool o, .int .i64 d]] w fun e w' => e = .returned (.int .i64 lf) ∧ Below w.heap.size w w') := by
  have hm0 := hm
  unfold MayP at hm0
  simp only [] at hm0
  obtain ⟨m1, m2, m3, m4, m5, m6, m7, m8⟩ := hm0
  refine ⟨if cp < 2 * wt then cp else 2 * wt, if o then d - n else 0, ?_, by omega, m3, m4, ?_, ?_, ?_⟩
  · by_cases h : cp < 2 * wt
    · rw [if_pos h]; omega
    · rw [if_neg h]; omega
  · intro w
    exact double_yes ⟨n, wt, b, cp, o, d⟩ hm w
  · intro w
    have t := left_any ⟨n, wt, b, cp, o, d⟩ w
    have hl : leftC ⟨n, wt, b, cp, o, d⟩ = if o then d - n else 0 := by unfold leftC; rw [mayC_true hm]; simp
    rw [hl] at t
    exact t
  · intro w
    obtain ⟨w2, hw⟩ : ∃ w2, (if cp < 2 * wt then cp else 2 * wt) = w2 := ⟨_, rfl⟩
    rw [hw]
    have q : wt ≤ w2 ∧ w2 ≤ cp := by
      by_cases h : cp < 2 * wt
      · rw [if_pos h] at hw; omega
      · rw [if_neg h] at hw; omega
    have t := left_any ⟨n, w2, b, cp, o, d⟩ w
    have hmy : MayP ⟨n, w2, b, cp, o, d⟩ := by
      unfold MayP
      refine ⟨m1, by simp only []; omega, by simp only []; omega, m4, m5, m6, fun h => ?_, m8⟩
      have := m7 h
      simp only []
      omega
    have hl : leftC ⟨n, w2, b, cp, o, d⟩ = if o then d - n else 0 := by unfold leftC; rw [mayC_true hmy]; simp
    rw [hl] at t
    exact t
theorem wait_reset (n wt b cp d : Int) (o : Bool) (hm : MayP ⟨n, wt, b, cp, o, d⟩) : ∃ dz lz : Int, lz ≤ b ∧
    (∀ w, Calls Try.prog 18 #[.agg #[.int .i64 n, .int .i64 wt, .int .i64 b, .int .i64 cp, .bool o, .int .i64 d]] w fun e w' => e = .returned (.tuple #[.agg #[.int .i64 n, .int .i64 b, .int .i64 b, .int .i64 cp, .bool o, .int .i64 dz], .int .i64 0]) ∧ Below w.heap.size w w') ∧
    (∀ w, Calls Try.prog 12 #[.agg #[.int .i64 n, .int .i64 b, .int .i64 b, .int .i64 cp, .bool o, .int .i64 dz]] w fun e w' => e = .returned (.int .i64 lz) ∧ Below w.heap.size w w') := by
  have hm0 := hm
  unfold MayP at hm0
  simp only [] at hm0
  obtain ⟨m1, m2, m3, m4, m5, m6, m7, m8⟩ := hm0
  have t := reset_yes ⟨n, wt, b, cp, o, d⟩ hm
  simp only [] at t
  obtain ⟨dz, hd⟩ : ∃ dz, (if o = true then (if n + b < d then n + b else d) else d) = dz := ⟨_, rfl⟩
  rw [hd] at t
  have hmz : MayP ⟨n, b, b, cp, o, dz⟩ := by
    unfold MayP
    refine ⟨m1, by simp only []; omega, by simp only []; omega, m4, m5, m6, fun h => ?_, fun h => ?_⟩
    · have := m7 h
      simp only [] at h ⊢
      rw [if_pos h] at hd
      by_cases h2 : n + b < d
      · rw [if_pos h2] at hd; omega
      · rw [if_neg h2] at hd; omega
    · have := m8 h
      simp only [] at h ⊢
      rw [if_neg (by rw [h]; decide)] at hd
      omega
  refine ⟨dz, leftC ⟨n, b, b, cp, o, dz⟩, ?_, fun w => t w, fun w => left_any ⟨n, b, b, cp, o, dz⟩ w⟩
  unfold leftC
  rw [mayC_true hmz]
  unfold MayP at hmz
  simp only [] at hmz
  obtain ⟨_, _, _, _, _, _, z7, _⟩ := hmz
  cases o
  · simp; omega
  · have := z7 rfl; simp; omega
theorem u8_of_wf {v : Int} (h : (Lit.int .u8 v).wf = true) : 0 ≤ v ∧ v ≤ 255 := by
  simp [Lit.wf, IntKind.min, IntKind.max, IntKind.signed, IntKind.bits] at h
  exact ⟨by omega, by omega⟩
set_option maxRecDepth 100000 in
set_option maxHeartbeats 1000000 in
theorem waits_any (c : Ck) (m : Int) (W : World) (hwf : (Lit.int .u8 m).wf = true) : Calls Try.prog 7 #[ckV c, .int .u8 m] W fun e w' => e = .returned (.bool true) ∧ Below W.heap.size W w' := by
  have hm8 : 0 ≤ m ∧ m ≤ 255 := u8_of_wf hwf
  obtain ⟨n0, wt0, b, cp0, o0, d0⟩ := c
  unfold ckV
  clear hwf
  go_enter Try.func7, Try.ntmps7
  go_wp2_with fail
  go_loopw [6] (fun i wr => ∃ (k : Nat) (n wt cp d : Int) (o : Bool), i = .int .i64 (k : Int) ∧ k ≤ 40 ∧ Below W.heap.size W wr ∧ Hid (wr.heap[W.heap.size]? = some (.cells #[.int .i64 n0, .int .i64 wt0, .int .i64 b, .int .i64 cp0, .bool o0, .int .i64 d0] 23 (0, 0))) ∧ Hid (wr.heap[(W.heap.size + 1)]? = some (.cells #[.int .i64 n, .int .i64 wt, .int .i64 b, .int .i64 cp, .bool o, .int .i64 d] 23 (0, 0))))
    (fun i _ => 41 - (intOf i).toNat)
  case atStart =>
    refine ⟨0, n0, wt0, cp0, d0, o0, rfl, by omega, by go_grown, Lib.hid ?_, Lib.hid ?_⟩
    · exact (two_allocs W _ _).1
    · exact (two_allocs W _ _).2.1
  case round =>
    obtain ⟨k, n, wt, cp, d, o, rfl, hk, B, HC, HX⟩ := hrel
    have sB := B.size
    have rq := HX.out
    have rc0 := HC.out
    have ltq := lt_of_block rq
    obtain ⟨bq0, bq1, bq2, bq3, bq4, bq5, bfq⟩ := block_cells rq
    have bfq0 := bfq 0
    have bfq1 := bfq 1
    have bfq2 := bfq 2
    have bfq3 := bfq 3
    have bfq4 := bfq 4
    have bfq5 := bfq 5
    clear bfq
    by_cases hend : (k : Int) < m % 40
    · by_cases hmx : MayP ⟨n, wt, b, cp, o, d⟩
      · obtain ⟨v2, lf, hw2, m1, m2, m3, D, L1, L2⟩ := wait_double n wt b cp d o hmx
        have HM := Lib.hid hmx
        clear hmx
        rcases hw2 with ⟨ev, hlt⟩ | ⟨ev, hge⟩
        · rw [ev] at D L2
          clear ev
          go_wp2_with fail
          refine (D _).mono ?_
          rintro e w2 ⟨rfl, g2⟩
          clear bq0 bq1 bq2 bq3 bq4 bq5 bfq0 bfq1 bfq2 bfq3 bfq4 bfq5
          have rq0 := rq
          have sw2 := g2.size
          try simp only [World.size_alloc, World.size_setCell, World.size_drew] at sw2
          have rq2 : w2.heap[(W.heap.size + 1)]? = some (.cells #[.int .i64 n, .int .i64 wt, .int .i64 b, .int .i64 cp, .bool o, .int .i64 d] 23 (0, 0)) := (g2.block _ (by go_size)).trans (by repeat' (first | (with_reducible assumption) | (with_reducible exact heap_alloc_new _ _) | (with_reducible apply set6_new; with_reducible assumption) | (with_reducible refine (heap_alloc_old _ _ ?_).trans ?_) | (with_reducible refine (set6_old ?_).trans ?_) | go_size))
          have rc2 : w2.heap[W.heap.size]? = some (.cells #[.int .i64 n0, .int .i64 wt0, .int .i64 b, .int .i64 cp0, .bool o0, .int .i64 d0] 23 (0, 0)) := (g2.block _ (by go_size)).trans (by repeat' (first | (with_reducible assumption) | (with_reducible exact heap_alloc_new _ _) | (with_reducible apply set6_new; with_reducible assumption) | (with_reducible refine (heap_alloc_old _ _ ?_).trans ?_) | (with_reducible refine (set6_old ?_).trans ?_) | go_size))
          have B := chain (W := W) (by go_grown) g2
          have sB := B.size
          clear g2
          clear rq0 rq
          go_wp2_with fail
          obtain ⟨WS, hWS⟩ : ∃ WS, WS = w2.alloc (.cells #[.int .i64 n, .int .i64 (2 * wt), .int .i64 b, .int .i64 cp, .bool o, .int .i64 d] 23) := ⟨_, rfl⟩
          rw [← hWS]
          have ry : WS.heap[w2.heap.size]? = some (.cells #[.int .i64 n, .int .i64 (2 * wt), .int .i64 b, .int .i64 cp, .bool o, .int .i64 d] 23 (0, 0)) := by rw [hWS]; exact heap_alloc_new _ _
          have rq : WS.heap[(W.heap.size + 1)]? = some (.cells #[.int .i64 n, .int .i64 wt, .int .i64 b, .int .i64 cp, .bool o, .int .i64 d] 23 (0, 0)) := by rw [hWS]; exact (heap_alloc_old _ _ (lt_of_block rq2)).trans rq2
          have rc : WS.heap[W.heap.size]? = some (.cells #[.int .i64 n0, .int .i64 wt0, .int .i64 b, .int .i64 cp0, .bool o0, .int .i64 d0] 23 (0, 0)) := by rw [hWS]; exact (heap_alloc_old _ _ (lt_of_block rc2)).trans rc2
          have B : Below W.heap.size W WS := by rw [hWS]; go_grown
          have sB := B.size
          have lty := lt_of_block ry
          have ltq := lt_of_block rq
          have ltc := lt_of_block rc
          clear hWS rq2 rc2
          refine g_start (by kernel_rfl) ?_
          refine g_take (i := 0) (d := (some 32)) (v := ?_) rfl rfl (by kernel_rfl) (fun _ _ _ h => h) (by rfl) (fun w' hb' => ?_) ?_
          rotate_left
          · (try go_simp); (try with_reducible rfl)
          try simp only [Act.put, List.setIfInBounds_toArray, List.set_cons_zero, List.set_cons_succ]
          refine g_take (i := 1) (d := (some 33)) (v := ?_) rfl rfl (by kernel_rfl) (fun _ _ _ h => h) (by rfl) (fun w' hb' => ?_) ?_
          rotate_left
          · have z : w'.heap[w2.heap.size]? = some (.cells #[.int .i64 n, .int .i64 (2 * wt), .int .i64 b, .int .i64 cp, .bool o, .int .i64 d] 23 (0, 0)) := (hb'.block _ (by go_size)).trans (ry); obtain ⟨z0, z1, z2, z3, z4, z5, zf⟩ := block_cells z; (try go_simp); (try with_reducible rfl)
          try simp only [Act.put, List.setIfInBounds_toArray, List.set_cons_zero, List.set_cons_succ]
          refine g_take (i := 2) (d := (some 34)) (v := ?_) rfl rfl (by kernel_rfl) (fun _ _ _ h => h) (by rfl) (fun w' hb' => ?_) ?_
          rotate_left
          · (try go_simp); (try with_reducible rfl)
          try simp only [Act.put, List.setIfInBounds_toArray, List.set_cons_zero, List.set_cons_succ]
          refine g_take (i := 3) (d := (some 35)) (v := ?_) rfl rfl (by kernel_rfl) (fun _ _ _ h => h) (by rfl) (fun w' hb' => ?_) ?_
          rotate_left
          · have z : w'.heap[w2.heap.size]? = some (.cells #[.int .i64 n, .int .i64 (2 * wt), .int .i64 b, .int .i64 cp, .bool o, .int .i64 d] 23 (0, 0)) := (hb'.block _ (by go_size)).trans (ry); obtain ⟨z0, z1, z2, z3, z4, z5, zf⟩ := block_cells z; (try go_simp); (try with_reducible rfl)
          try simp only [Act.put, List.setIfInBounds_toArray, List.set_cons_zero, List.set_cons_succ]
          refine g_take (i := 4) (d := (some 36)) (v := ?_) rfl rfl (by kernel_rfl) (fun _ _ _ h => h) (by rfl) (fun w' hb' => ?_) ?_
          rotate_left
          · have q : decide (cp < (2 * wt)) = false := by simp; try omega
            try go_simp
            try simp only [q]
            try with_reducible rfl; (try go_simp); (try with_reducible rfl)
          try simp only [Act.put, List.setIfInBounds_toArray, List.set_cons_zero, List.set_cons_succ]
          refine g_take (i := 5) (d := (some 37)) (v := ?_) rfl rfl (by kernel_rfl) (fun _ _ _ h => h) (by rfl) (fun w' hb' => ?_) ?_
          rotate_left
          · (try go_simp); (try with_reducible rfl)
          try simp only [Act.put, List.setIfInBounds_toArray, List.set_cons_zero, List.set_cons_succ]
          refine g_take (i := 6) (d := (some 38)) (v := ?_) rfl rfl (by kernel_rfl) (fun _ _ _ h => h) (by rfl) (fun w' hb' => ?_) ?_
          rotate_left
          · (try go_simp); (try with_reducible rfl)
          try simp only [Act.put, List.setIfInBounds_toArray, List.set_cons_zero, List.set_cons_succ]
          refine g_take (i := 7) (d := (some 39)) (v := ?_) rfl rfl (by kernel_rfl) (fun _ _ _ h => h) (by rfl) (fun w' hb' => ?_) ?_
          rotate_left
          · have z : w'.heap[w2.heap.size]? = some (.cells #[.int .i64 n, .int .i64 (2 * wt), .int .i64 b, .int .i64 cp, .bool o, .int .i64 d] 23 (0, 0)) := (hb'.block _ (by go_size)).trans (ry); obtain ⟨z0, z1, z2, z3, z4, z5, zf⟩ := block_cells z; (try go_simp); (try with_reducible rfl)
          try simp only [Act.put, List.setIfInBounds_toArray, List.set_cons_zero, List.set_cons_succ]
          refine g_take (i := 8) (d := (some 40)) (v := ?_) rfl rfl (by kernel_rfl) (fun _ _ _ h => h) (by rfl) (fun w' hb' => ?_) ?_
          rotate_left
          · (try go_simp); (try with_reducible rfl)
          try simp only [Act.put, List.setIfInBounds_toArray, List.set_cons_zero, List.set_cons_succ]
          refine g_take (i := 9) (d := (some 41)) (v := ?_) rfl rfl (by kernel_rfl) (fun _ _ _ h => h) (by rfl) (fun w' hb' => ?_) ?_
          rotate_left
          · have z : w'.heap[w2.heap.size]? = some (.cells #[.int .i64 n, .int .i64 (2 * wt), .int .i64 b, .int .i64 cp, .bool o, .int .i64 d] 23 (0, 0)) := (hb'.block _ (by go_size)).trans (ry); obtain ⟨z0, z1, z2, z3, z4, z5, zf⟩ := block_cells z; (try go_simp); (try with_reducible rfl)
          try simp only [Act.put, List.setIfInBounds_toArray, List.set_cons_zero, List.set_cons_succ]
          refine g_take (i := 10) (d := (some 42)) (v := ?_) rfl rfl (by kernel_rfl) (fun _ _ _ h => h) (by rfl) (fun w' hb' => ?_) ?_
          rotate_left
          · have q : decide ((2 * wt) < cp) = true := by simp; try omega
            try go_simp
            try simp only [q]
            try with_reducible rfl; (try go_simp); (try with_reducible rfl)
          try simp only [Act.put, List.setIfInBounds_toArray, List.set_cons_zero, List.set_cons_succ]
          refine g_take (i := 11) (d := (some 43)) (v := ?_) rfl rfl (by kernel_rfl) (fun _ _ _ h => h) (by rfl) (fun w' hb' => ?_) ?_
          rotate_left
          · (try go_simp); (try with_reducible rfl)
          try simp only [Act.put, List.setIfInBounds_toArray, List.set_cons_zero, List.set_cons_succ]
          refine g_take (i := 12) (d := (some 44)) (v := ?_) rfl rfl (by kernel_rfl) (fun _ _ _ h => h) (by rfl) (fun w' hb' => ?_) ?_
          rotate_left
          · (try go_simp); (try with_reducible rfl)
          try simp only [Act.put, List.setIfInBounds_toArray, List.set_cons_zero, List.set_cons_succ]
          refine g_take (i := 13) (d := (some 45)) (v := ?_) rfl rfl (by kernel_rfl) (fun _ _ _ h => h) (by rfl) (fun w' hb' => ?_) ?_
          rotate_left
          · have z : w'.heap[w2.heap.size]? = some (.cells #[.int .i64 n, .int .i64 (2 * wt), .int .i64 b, .int .i64 cp, .bool o, .int .i64 d] 23 (0, 0)) := (hb'.block _ (by go_size)).trans (ry); obtain ⟨z0, z1, z2, z3, z4, z5, zf⟩ := block_cells z; (try go_simp); (try with_reducible rfl)
          try simp only [Act.put, List.setIfInBounds_toArray, List.set_cons_zero, List.set_cons_succ]
          refine g_take (i := 14) (d := (some 46)) (v := ?_) rfl rfl (by kernel_rfl) (fun _ _ _ h => h) (by rfl) (fun w' hb' => ?_) ?_
          rotate_left
          · (try go_simp); (try with_reducible rfl)
          try simp only [Act.put, List.setIfInBounds_toArray, List.set_cons_zero, List.set_cons_succ]
          refine g_take (i := 15) (d := (some 47)) (v := ?_) rfl rfl (by kernel_rfl) (fun _ _ _ h => h) (by rfl) (fun w' hb' => ?_) ?_
          rotate_left
          · have z : w'.heap[(W.heap.size + 1)]? = some (.cells #[.int .i64 n, .int .i64 wt, .int .i64 b, .int .i64 cp, .bool o, .int .i64 d] 23 (0, 0)) := (hb'.block _ (by go_size)).trans (rq); obtain ⟨z0, z1, z2, z3, z4, z5, zf⟩ := block_cells z; (try go_simp); (try with_reducible rfl)
          try simp only [Act.put, List.setIfInBounds_toArray, List.set_cons_zero, List.set_cons_succ]
          refine g_take (i := 16) (d := (some 48)) (v := ?_) rfl rfl (by kernel_rfl) (fun _ _ _ h => h) (by rfl) (fun w' hb' => ?_) ?_
          rotate_left
          · (try go_simp); (try with_reducible rfl)
          try simp only [Act.put, List.setIfInBounds_toArray, List.set_cons_zero, List.set_cons_succ]
          refine g_take (i := 17) (d := (some 49)) (v := ?_) rfl rfl (by kernel_rfl) (fun _ _ _ h => h) (by rfl) (fun w' hb' => ?_) ?_
          rotate_left
          · have q : IntKind.i64.wrap (2 * wt) = 2 * wt := by rw [IntKind.wrap_i64]; omega
            go_simp
            try simp only [q, bne_self_eq_false]
            try with_reducible rfl; (try go_simp); (try with_reducible rfl)
          try simp only [Act.put, List.setIfInBounds_toArray, List.set_cons_zero, List.set_cons_succ]
          refine g_take (i := 18) (d := (some 50)) (v := ?_) rfl rfl (by kernel_rfl) (fun _ _ _ h => h) (by rfl) (fun w' hb' => ?_) ?_
          rotate_left
          · (try go_simp); (try with_reducible rfl)
          try simp only [Act.put, List.setIfInBounds_toArray, List.set_cons_zero, List.set_cons_succ]
          refine g_take (i := 19) (d := (some 51)) (v := ?_) rfl rfl (by kernel_rfl) (fun _ _ _ h => h) (by rfl) (fun w' hb' => ?_) ?_
          rotate_left
          · (try go_simp); (try with_reducible rfl)
          try simp only [Act.put, List.setIfInBounds_toArray, List.set_cons_zero, List.set_cons_succ]
          refine g_take (i := 20) (d := (some 52)) (v := ?_) rfl rfl (by kernel_rfl) (fun _ _ _ h => h) (by rfl) (fun w' hb' => ?_) ?_
          rotate_left
          · (try go_simp); (try with_reducible rfl)
          try simp only [Act.put, List.setIfInBounds_toArray, List.set_cons_zero, List.set_cons_succ]
          refine g_take (i := 21) (d := (some 53)) (v := ?_) rfl rfl (by kernel_rfl) (fun _ _ _ h => h) (by rfl) (fun w' hb' => ?_) ?_
          rotate_left
          · (try go_simp); (try with_reducible rfl)
          try simp only [Act.put, List.setIfInBounds_toArray, List.set_cons_zero, List.set_cons_succ]
          refine g_take (i := 22) (d := (some 54)) (v := ?_) rfl rfl (by kernel_rfl) (fun _ _ _ h => h) (by rfl) (fun w' hb' => ?_) ?_
          rotate_left
          · have z : w'.heap[w2.heap.size]? = some (.cells #[.int .i64 n, .int .i64 (2 * wt), .int .i64 b, .int .i64 cp, .bool o, .int .i64 d] 23 (0, 0)) := (hb'.block _ (by go_size)).trans (ry); obtain ⟨z0, z1, z2, z3, z4, z5, zf⟩ := block_cells z; (try go_simp); (try with_reducible rfl)
          try simp only [Act.put, List.setIfInBounds_toArray, List.set_cons_zero, List.set_cons_succ]
          refine g_take (i := 23) (d := (some 55)) (v := ?_) rfl rfl (by kernel_rfl) (fun _ _ _ h => h) (by rfl) (fun w' hb' => ?_) ?_
          rotate_left
          · (try go_simp); (try with_reducible rfl)
          try simp only [Act.put, List.setIfInBounds_toArray, List.set_cons_zero, List.set_cons_succ]
          refine g_take (i := 24) (d := (some 56)) (v := ?_) rfl rfl (by kernel_rfl) (fun _ _ _ h => h) (by rfl) (fun w' hb' => ?_) ?_
          rotate_left
          · have z : w'.heap[(W.heap.size + 1)]? = some (.cells #[.int .i64 n, .int .i64 wt, .int .i64 b, .int .i64 cp, .bool o, .int .i64 d] 23 (0, 0)) := (hb'.block _ (by go_size)).trans (rq); obtain ⟨z0, z1, z2, z3, z4, z5, zf⟩ := block_cells z; (try go_simp); (try with_reducible rfl)
          try simp only [Act.put, List.setIfInBounds_toArray, List.set_cons_zero, List.set_cons_succ]
          refine g_take (i := 25) (d := (some 57)) (v := ?_) rfl rfl (by kernel_rfl) (fun _ _ _ h => h) (by rfl) (fun w' hb' => ?_) ?_
          rotate_left
          · (try go_simp); (try with_reducible rfl)
          try simp only [Act.put, List.setIfInBounds_toArray, List.set_cons_zero, List.set_cons_succ]
          refine g_take (i := 26) (d := (some 58)) (v := ?_) rfl rfl (by kernel_rfl) (fun _ _ _ h => h) (by rfl) (fun w' hb' => ?_) ?_
          rotate_left
          · (try go_simp); (try with_reducible rfl)
          try simp only [Act.put, List.setIfInBounds_toArray, List.set_cons_zero, List.set_cons_succ]
          refine g_take (i := 27) (d := (some 59)) (v := ?_) rfl rfl (by kernel_rfl) (fun _ _ _ h => h) (by rfl) (fun w' hb' => ?_) ?_
          rotate_left
          · (try go_simp); (try with_reducible rfl)
          try simp only [Act.put, List.setIfInBounds_toArray, List.set_cons_zero, List.set_cons_succ]
          refine g_take (i := 28) (d := (some 60)) (v := ?_) rfl rfl (by kernel_rfl) (fun _ _ _ h => h) (by rfl) (fun w' hb' => ?_) ?_
          rotate_left
          · have z : w'.heap[w2.heap.size]? = some (.cells #[.int .i64 n, .int .i64 (2 * wt), .int .i64 b, .int .i64 cp, .bool o, .int .i64 d] 23 (0, 0)) := (hb'.block _ (by go_size)).trans (ry); obtain ⟨z0, z1, z2, z3, z4, z5, zf⟩ := block_cells z; (try go_simp); (try with_reducible rfl)
          try simp only [Act.put, List.setIfInBounds_toArray, List.set_cons_zero, List.set_cons_succ]
          refine g_take (i := 30) (d := (some 62)) (v := ?_) rfl rfl (by kernel_rfl) (fun _ _ _ h => h) (by rfl) (fun w' hb' => ?_) ?_
          rotate_left
          · have z : w'.heap[(W.heap.size + 1)]? = some (.cells #[.int .i64 n, .int .i64 wt, .int .i64 b, .int .i64 cp, .bool o, .int .i64 d] 23 (0, 0)) := (hb'.block _ (by go_size)).trans (rq); obtain ⟨z0, z1, z2, z3, z4, z5, zf⟩ := block_cells z; (try go_simp); (try with_reducible rfl)
          try simp only [Act.put, List.setIfInBounds_toArray, List.set_cons_zero, List.set_cons_succ]
          refine g_run (i := 29) rfl (by kernel_rfl) (by rfl) (fun K hK => ?_)
          go_simp; refine (L2 _).mono ?_; rintro e w3 ⟨rfl, g⟩; refine hK _ _ ⟨g, ?_⟩; have B := chain (W := W) (by go_grown) g; have sB := B.size; have ry3 := (g.block _ (lt_of_block (w := WS.drew) ry)).trans ry; have rq3 := (g.block _ (lt_of_block (w := WS.drew) rq)).trans rq; have rc3 := (g.block _ (lt_of_block (w := WS.drew) rc)).trans rc; clear hK K g ry rq rc
          try simp only [Act.put, List.setIfInBounds_toArray, List.set_cons_zero, List.set_cons_succ]
          refine g_run (i := 31) rfl (by kernel_rfl) (by rfl) (fun K hK => ?_)
          go_simp; refine (L1 _).mono ?_; rintro e w4 ⟨rfl, g⟩; refine hK _ _ ⟨g, ?_⟩; have B := chain (W := W) (by go_grown) g; have sB := B.size; have ry4 := (g.block _ (lt_of_block (w := w3) ry3)).trans ry3; have rq4 := (g.block _ (lt_of_block (w := w3) rq3)).trans rq3; have rc4 := (g.block _ (lt_of_block (w := w3) rc3)).trans rc3; clear hK K g ry3 rq3 rc3
          try simp only [Act.put, List.setIfInBounds_toArray, List.set_cons_zero, List.set_cons_succ]
          refine g_take (i := 32) (d := (some 64)) (v := ?_) rfl rfl (by kernel_rfl) (fun _ _ _ h => h) (by rfl) (fun w' hb' => ?_) ?_
          rotate_left
          · (try go_simp); (try with_reducible rfl)
          try simp only [Act.put, List.setIfInBounds_toArray, List.set_cons_zero, List.set_cons_succ]
          refine g_take (i := 33) (d := (some 65)) (v := ?_) rfl rfl (by kernel_rfl) (fun _ _ _ h => h) (by rfl) (fun w' hb' => ?_) ?_
          rotate_left
          · (try go_simp); (try with_reducible rfl)
          try simp only [Act.put, List.setIfInBounds_toArray, List.set_cons_zero, List.set_cons_succ]
          refine g_done (by kernel_rfl) ?_
          have lty := lt_of_block ry4
          obtain ⟨by0, by1, by2, by3, by4, by5, bfy⟩ := block_cells ry4
          have bfy0 := bfy 0
          have bfy1 := bfy 1
          have bfy2 := bfy 2
          have bfy3 := bfy 3
          have bfy4 := bfy 4
          have bfy5 := bfy 5
          clear bfy
          have ltx := lt_of_block rq4
          obtain ⟨bx0, bx1, bx2, bx3, bx4, bx5, bfx⟩ := block_cells rq4
          have bfx0 := bfx 0
          have bfx1 := bfx 1
          have bfx2 := bfx 2
          have bfx3 := bfx 3
          have bfx4 := bfx 4
          have bfx5 := bfx 5
          clear bfx
          go_wp2_with fail
          go_roundw
          case rel =>
            refine ⟨k + 1, n, (2 * wt), cp, d, o, by simp, by omega, by go_grown, Lib.hid ?_, Lib.hid ?_⟩
            · repeat' (first | (with_reducible assumption) | (with_reducible exact heap_alloc_new _ _) | (with_reducible apply set6_new; with_reducible assumption) | (with_reducible refine (heap_alloc_old _ _ ?_).trans ?_) | (with_reducible refine (set6_old ?_).trans ?_) | go_size)
            · repeat' (first | (with_reducible assumption) | (with_reducible exact heap_alloc_new _ _) | (with_reducible apply set6_new; with_reducible assumption) | (with_reducible refine (heap_alloc_old _ _ ?_).trans ?_) | (with_reducible refine (set6_old ?_).trans ?_) | go_size)
          case measure => simp [intOf]; omega
        · rw [ev] at D L2
          clear ev
          go_wp2_with fail
          refine (D _).mono ?_
          rintro e w2 ⟨rfl, g2⟩
          clear bq0 bq1 bq2 bq3 bq4 bq5 bfq0 bfq1 bfq2 bfq3 bfq4 bfq5
          have rq0 := rq
          have sw2 := g2.size
          try simp only [World.size_alloc, World.size_setCell, World.size_drew] at sw2
          have rq2 : w2.heap[(W.heap.size + 1)]? = some (.cells #[.int .i64 n, .int .i64 wt, .int .i64 b, .int .i64 cp, .bool o, .int .i64 d] 23 (0, 0)) := (g2.block _ (by go_size)).trans (by repeat' (first | (with_reducible assumption) | (with_reducible exact heap_alloc_new _ _) | (with_reducible apply set6_new; with_reducible assumption) | (with_reducible refine (heap_alloc_old _ _ ?_).trans ?_) | (with_reducible refine (set6_old ?_).trans ?_) | go_size))
          have rc2 : w2.heap[W.heap.size]? = some (.cells #[.int .i64 n0, .int .i64 wt0, .int .i64 b, .int .i64 cp0, .bool o0, .int .i64 d0] 23 (0, 0)) := (g2.block _ (by go_size)).trans (by repeat' (first | (with_reducible assumption) | (with_reducible exact heap_alloc_new _ _) | (with_reducible apply set6_new; with_reducible assumption) | (with_reducible refine (heap_alloc_old _ _ ?_).trans ?_) | (with_reducible refine (set6_old ?_).trans ?_) | go_size))
          have B := chain (W := W) (by go_grown) g2
          have sB := B.size
          clear g2
          clear rq0 rq
          go_wp2_with fail
          obtain ⟨WS, hWS⟩ : ∃ WS, WS = w2.alloc (.cells #[.int .i64 n, .int .i64 cp, .int .i64 b, .int .i64 cp, .bool o, .int .i64 d] 23) := ⟨_, rfl⟩
          rw [← hWS]
          have ry : WS.heap[w2.heap.size]? = some (.cells #[.int .i64 n, .int .i64 cp, .int .i64 b, .int .i64 cp, .bool o, .int .i64 d] 23 (0, 0)) := by rw [hWS]; exact heap_alloc_new _ _
          have rq : WS.heap[(W.heap.size + 1)]? = some (.cells #[.int .i64 n, .int .i64 wt, .int .i64 b, .int .i64 cp, .bool o, .int .i64 d] 23 (0, 0)) := by rw [hWS]; exact (heap_alloc_old _ _ (lt_of_block rq2)).trans rq2
          have rc : WS.heap[W.heap.size]? = some (.cells #[.int .i64 n0, .int .i64 wt0, .int .i64 b, .int .i64 cp0, .bool o0, .int .i64 d0] 23 (0, 0)) := by rw [hWS]; exact (heap_alloc_old _ _ (lt_of_block rc2)).trans rc2
          have B : Below W.heap.size W WS := by rw [hWS]; go_grown
          have sB := B.size
          have lty := lt_of_block ry
          have ltq := lt_of_block rq
          have ltc := lt_of_block rc
          clear hWS rq2 rc2
          refine g_start (by kernel_rfl) ?_
          refine g_take (i := 0) (d := (some 32)) (v := ?_) rfl rfl (by kernel_rfl) (fun _ _ _ h => h) (by rfl) (fun w' hb' => ?_) ?_
          rotate_left
          · (try go_simp); (try with_reducible rfl)
          try simp only [Act.put, List.setIfInBounds_toArray, List.set_cons_zero, List.set_cons_succ]
          refine g_take (i := 1) (d := (some 33)) (v := ?_) rfl rfl (by kernel_rfl) (fun _ _ _ h => h) (by rfl) (fun w' hb' => ?_) ?_
          rotate_left
          · have z : w'.heap[w2.heap.size]? = some (.cells #[.int .i64 n, .int .i64 cp, .int .i64 b, .int .i64 cp, .bool o, .int .i64 d] 23 (0, 0)) := (hb'.block _ (by go_size)).trans (ry); obtain ⟨z0, z1, z2, z3, z4, z5, zf⟩ := block_cells z; (try go_simp); (try with_reducible rfl)
          try simp only [Act.put, List.setIfInBounds_toArray, List.set_cons_zero, List.set_cons_succ]
          refine g_take (i := 2) (d := (some 34)) (v := ?_) rfl rfl (by kernel_rfl) (fun _ _ _ h => h) (by rfl) (fun w' hb' => ?_) ?_
          rotate_left
          · (try go_simp); (try with_reducible rfl)
          try simp only [Act.put, List.setIfInBounds_toArray, List.set_cons_zero, List.set_cons_succ]
          refine g_take (i := 3) (d := (some 35)) (v := ?_) rfl rfl (by kernel_rfl) (fun _ _ _ h => h) (by rfl) (fun w' hb' => ?_) ?_
          rotate_left
          · have z : w'.heap[w2.heap.size]? = some (.cells #[.int .i64 n, .int .i64 cp, .int .i64 b, .int .i64 cp, .bool o, .int .i64 d] 23 (0, 0)) := (hb'.block _ (by go_size)).trans (ry); obtain ⟨z0, z1, z2, z3, z4, z5, zf⟩ := block_cells z; (try go_simp); (try with_reducible rfl)
          try simp only [Act.put, List.setIfInBounds_toArray, List.set_cons_zero, List.set_cons_succ]
          refine g_take (i := 4) (d := (some 36)) (v := ?_) rfl rfl (by kernel_rfl) (fun _ _ _ h => h) (by rfl) (fun w' hb' => ?_) ?_
          rotate_left
          · have q : decide (cp < cp) = false := by simp; try omega
            try go_simp
            try simp only [q]
            try with_reducible rfl; (try go_simp); (try with_reducible rfl)
          try simp only [Act.put, List.setIfInBounds_toArray, List.set_cons_zero, List.set_cons_succ]
          refine g_take (i := 5) (d := (some 37)) (v := ?_) rfl rfl (by kernel_rfl) (fun _ _ _ h => h) (by rfl) (fun w' hb' => ?_) ?_
          rotate_left
          · (try go_simp); (try with_reducible rfl)
          try simp only [Act.put, List.setIfInBounds_toArray, List.set_cons_zero, List.set_cons_succ]
          refine g_take (i := 6) (d := (some 38)) (v := ?_) rfl rfl (by kernel_rfl) (fun _ _ _ h => h) (by rfl) (fun w' hb' => ?_) ?_
          rotate_left
          · (try go_simp); (try with_reducible rfl)
          try simp only [Act.put, List.setIfInBounds_toArray, List.set_cons_zero, List.set_cons_succ]
          refine g_take (i := 7) (d := (some 39)) (v := ?_) rfl rfl (by kernel_rfl) (fun _ _ _ h => h) (by rfl) (fun w' hb' => ?_) ?_
          rotate_left
          · have z : w'.heap[w2.heap.size]? = some (.cells #[.int .i64 n, .int .i64 cp, .int .i64 b, .int .i64 cp, .bool o, .int .i64 d] 23 (0, 0)) := (hb'.block _ (by go_size)).trans (ry); obtain ⟨z0, z1, z2, z3, z4, z5, zf⟩ := block_cells z; (try go_simp); (try with_reducible rfl)
          try simp only [Act.put, List.setIfInBounds_toArray, List.set_cons_zero, List.set_cons_succ]
          refine g_take (i := 8) (d := (some 40)) (v := ?_) rfl rfl (by kernel_rfl) (fun _ _ _ h => h) (by rfl) (fun w' hb' => ?_) ?_
          rotate_left
          · (try go_simp); (try with_reducible rfl)
          try simp only [Act.put, List.setIfInBounds_toArray, List.set_cons_zero, List.set_cons_succ]
          refine g_take (i := 9) (d := (some 41)) (v := ?_) rfl rfl (by kernel_rfl) (fun _ _ _ h => h) (by rfl) (fun w' hb' => ?_) ?_
          rotate_left
          · have z : w'.heap[w2.heap.size]? = some (.cells #[.int .i64 n, .int .i64 cp, .int .i64 b, .int .i64 cp, .bool o, .int .i64 d] 23 (0, 0)) := (hb'.block _ (by go_size)).trans (ry); obtain ⟨z0, z1, z2, z3, z4, z5, zf⟩ := block_cells z; (try go_simp); (try with_reducible rfl)
          try simp only [Act.put, List.setIfInBounds_toArray, List.set_cons_zero, List.set_cons_succ]
          refine g_take (i := 10) (d := (some 42)) (v := ?_) rfl rfl (by kernel_rfl) (fun _ _ _ h => h) (by rfl) (fun w' hb' => ?_) ?_
          rotate_left
          · have q : decide (cp < cp) = false := by simp; try omega
            try go_simp
            try simp only [q]
            try with_reducible rfl; (try go_simp); (try with_reducible rfl)
          try simp only [Act.put, List.setIfInBounds_toArray, List.set_cons_zero, List.set_cons_succ]
          refine g_take (i := 11) (d := (some 43)) (v := ?_) rfl rfl (by kernel_rfl) (fun _ _ _ h => h) (by rfl) (fun w' hb' => ?_) ?_
          rotate_left
          · (try go_simp); (try with_reducible rfl)
          try simp only [Act.put, List.setIfInBounds_toArray, List.set_cons_zero, List.set_cons_succ]
          refine g_skip (i := 12) (d := (some 44)) rfl rfl (by kernel_rfl) (fun _ _ _ h => h) (by rfl) ?_
          try simp only [Act.put, List.setIfInBounds_toArray, List.set_cons_zero, List.set_cons_succ]
          refine g_skip (i := 13) (d := (some 45)) rfl rfl (by kernel_rfl) (fun _ _ _ h => h) (by rfl) ?_
          try simp only [Act.put, List.setIfInBounds_toArray, List.set_cons_zero, List.set_cons_succ]
          refine g_skip (i := 14) (d := (some 46)) rfl rfl (by kernel_rfl) (fun _ _ _ h => h) (by rfl) ?_
          try simp only [Act.put, List.setIfInBounds_toArray, List.set_cons_zero, List.set_cons_succ]
          refine g_skip (i := 15) (d := (some 47)) rfl rfl (by kernel_rfl) (fun _ _ _ h => h) (by rfl) ?_
          try simp only [Act.put, List.setIfInBounds_toArray, List.set_cons_zero, List.set_cons_succ]
          refine g_skip (i := 16) (d := (some 48)) rfl rfl (by kernel_rfl) (fun _ _ _ h => h) (by rfl) ?_
          try simp only [Act.put, List.setIfInBounds_toArray, List.set_cons_zero, List.set_cons_succ]
          refine g_skip (i := 17) (d := (some 49)) rfl rfl (by kernel_rfl) (fun _ _ _ h => h) (by rfl) ?_
          try simp only [Act.put, List.setIfInBounds_toArray, List.set_cons_zero, List.set_cons_succ]
          refine g_take (i := 18) (d := (some 50)) (v := ?_) rfl rfl (by kernel_rfl) (fun _ _ _ h => h) (by rfl) (fun w' hb' => ?_) ?_
          rotate_left
          · (try go_simp); (try with_reducible rfl)
          try simp only [Act.put, List.setIfInBounds_toArray, List.set_cons_zero, List.set_cons_succ]
          refine g_take (i := 19) (d := (some 51)) (v := ?_) rfl rfl (by kernel_rfl) (fun _ _ _ h => h) (by rfl) (fun w' hb' => ?_) ?_
          rotate_left
          · (try go_simp); (try with_reducible rfl)
          try simp only [Act.put, List.setIfInBounds_toArray, List.set_cons_zero, List.set_cons_succ]
          refine g_take (i := 20) (d := (some 52)) (v := ?_) rfl rfl (by kernel_rfl) (fun _ _ _ h => h) (by rfl) (fun w' hb' => ?_) ?_
          rotate_left
          · (try go_simp); (try with_reducible rfl)
          try simp only [Act.put, List.setIfInBounds_toArray, List.set_cons_zero, List.set_cons_succ]
          refine g_take (i := 21) (d := (some 53)) (v := ?_) rfl rfl (by kernel_rfl) (fun _ _ _ h => h) (by rfl) (fun w' hb' => ?_) ?_
          rotate_left
          · (try go_simp); (try with_reducible rfl)
          try simp only [Act.put, List.setIfInBounds_toArray, List.set_cons_zero, List.set_cons_succ]
          refine g_take (i := 22) (d := (some 54)) (v := ?_) rfl rfl (by kernel_rfl) (fun _ _ _ h => h) (by rfl) (fun w' hb' => ?_) ?_
          rotate_left
          · have z : w'.heap[w2.heap.size]? = some (.cells #[.int .i64 n, .int .i64 cp, .int .i64 b, .int .i64 cp, .bool o, .int .i64 d] 23 (0, 0)) := (hb'.block _ (by go_size)).trans (ry); obtain ⟨z0, z1, z2, z3, z4, z5, zf⟩ := block_cells z; (try go_simp); (try with_reducible rfl)
          try simp only [Act.put, List.setIfInBounds_toArray, List.set_cons_zero, List.set_cons_succ]
          refine g_take (i := 23) (d := (some 55)) (v := ?_) rfl rfl (by kernel_rfl) (fun _ _ _ h => h) (by rfl) (fun w' hb' => ?_) ?_
          rotate_left
          · (try go_simp); (try with_reducible rfl)
          try simp only [Act.put, List.setIfInBounds_toArray, List.set_cons_zero, List.set_cons_succ]
          refine g_take (i := 24) (d := (some 56)) (v := ?_) rfl rfl (by kernel_rfl) (fun _ _ _ h => h) (by rfl) (fun w' hb' => ?_) ?_
          rotate_left
          · have z : w'.heap[(W.heap.size + 1)]? = some (.cells #[.int .i64 n, .int .i64 wt, .int .i64 b, .int .i64 cp, .bool o, .int .i64 d] 23 (0, 0)) := (hb'.block _ (by go_size)).trans (rq); obtain ⟨z0, z1, z2, z3, z4, z5, zf⟩ := block_cells z; (try go_simp); (try with_reducible rfl)
          try simp only [Act.put, List.setIfInBounds_toArray, List.set_cons_zero, List.set_cons_succ]
          refine g_take (i := 25) (d := (some 57)) (v := ?_) rfl rfl (by kernel_rfl) (fun _ _ _ h => h) (by rfl) (fun w' hb' => ?_) ?_
          rotate_left
          · (try go_simp); (try with_reducible rfl)
          try simp only [Act.put, List.setIfInBounds_toArray, List.set_cons_zero, List.set_cons_succ]
          refine g_take (i := 26) (d := (some 58)) (v := ?_) rfl rfl (by kernel_rfl) (fun _ _ _ h => h) (by rfl) (fun w' hb' => ?_) ?_
          rotate_left
          · (try go_simp); (try with_reducible rfl)
          try simp only [Act.put, List.setIfInBounds_toArray, List.set_cons_zero, List.set_cons_succ]
          refine g_take (i := 27) (d := (some 59)) (v := ?_) rfl rfl (by kernel_rfl) (fun _ _ _ h => h) (by rfl) (fun w' hb' => ?_) ?_
          rotate_left
          · (try go_simp); (try with_reducible rfl)
          try simp only [Act.put, List.setIfInBounds_toArray, List.set_cons_zero, List.set_cons_succ]
          refine g_take (i := 28) (d := (some 60)) (v := ?_) rfl rfl (by kernel_rfl) (fun _ _ _ h => h) (by rfl) (fun w' hb' => ?_) ?_
          rotate_left
          · have z : w'.heap[w2.heap.size]? = some (.cells #[.int .i64 n, .int .i64 cp, .int .i64 b, .int .i64 cp, .bool o, .int .i64 d] 23 (0, 0)) := (hb'.block _ (by go_size)).trans (ry); obtain ⟨z0, z1, z2, z3, z4, z5, zf⟩ := block_cells z; (try go_simp); (try with_reducible rfl)
          try simp only [Act.put, List.setIfInBounds_toArray, List.set_cons_zero, List.set_cons_succ]
          refine g_take (i := 30) (d := (some 62)) (v := ?_) rfl rfl (by kernel_rfl) (fun _ _ _ h => h) (by rfl) (fun w' hb' => ?_) ?_
          rotate_left
          · have z : w'.heap[(W.heap.size + 1)]? = some (.cells #[.int .i64 n, .int .i64 wt, .int .i64 b, .int .i64 cp, .bool o, .int .i64 d] 23 (0, 0)) := (hb'.block _ (by go_size)).trans (rq); obtain ⟨z0, z1, z2, z3, z4, z5, zf⟩ := block_cells z; (try go_simp); (try with_reducible rfl)
          try simp only [Act.put, List.setIfInBounds_toArray, List.set_cons_zero, List.set_cons_succ]
          refine g_run (i := 29) rfl (by kernel_rfl) (by rfl) (fun K hK => ?_)
          go_simp; refine (L2 _).mono ?_; rintro e w3 ⟨rfl, g⟩; refine hK _ _ ⟨g, ?_⟩; have B := chain (W := W) (by go_grown) g; have sB := B.size; have ry3 := (g.block _ (lt_of_block (w := WS.drew) ry)).trans ry; have rq3 := (g.block _ (lt_of_block (w := WS.drew) rq)).trans rq; have rc3 := (g.block _ (lt_of_block (w := WS.drew) rc)).trans rc; clear hK K g ry rq rc
          try simp only [Act.put, List.setIfInBounds_toArray, List.set_cons_zero, List.set_cons_succ]
          refine g_run (i := 31) rfl (by kernel_rfl) (by rfl) (fun K hK => ?_)
          go_simp; refine (L1 _).mono ?_; rintro e w4 ⟨rfl, g⟩; refine hK _ _ ⟨g, ?_⟩; have B := chain (W := W) (by go_grown) g; have sB := B.size; have ry4 := (g.block _ (lt_of_block (w := w3) ry3)).trans ry3; have rq4 := (g.block _ (lt_of_block (w := w3) rq3)).trans rq3; have rc4 := (g.block _ (lt_of_block (w := w3) rc3)).trans rc3; clear hK K g ry3 rq3 rc3
          try simp only [Act.put, List.setIfInBounds_toArray, List.set_cons_zero, List.set_cons_succ]
          refine g_take (i := 32) (d := (some 64)) (v := ?_) rfl rfl (by kernel_rfl) (fun _ _ _ h => h) (by rfl) (fun w' hb' => ?_) ?_
          rotate_left
          · (try go_simp); (try with_reducible rfl)
          try simp only [Act.put, List.setIfInBounds_toArray, List.set_cons_zero, List.set_cons_succ]
          refine g_take (i := 33) (d := (some 65)) (v := ?_) rfl rfl (by kernel_rfl) (fun _ _ _ h => h) (by rfl) (fun w' hb' => ?_) ?_
          rotate_left
          · (try go_simp); (try with_reducible rfl)
          try simp only [Act.put, List.setIfInBounds_toArray, List.set_cons_zero, List.set_cons_succ]
          refine g_done (by kernel_rfl) ?_
          have lty := lt_of_block ry4
          obtain ⟨by0, by1, by2, by3, by4, by5, bfy⟩ := block_cells ry4
          have bfy0 := bfy 0
          have bfy1 := bfy 1
          have bfy2 := bfy 2
          have bfy3 := bfy 3
          have bfy4 := bfy 4
          have bfy5 := bfy 5
          clear bfy
          have ltx := lt_of_block rq4
          obtain ⟨bx0, bx1, bx2, bx3, bx4, bx5, bfx⟩ := block_cells rq4
          have bfx0 := bfx 0
          have bfx1 := bfx 1
          have bfx2 := bfx 2
          have bfx3 := bfx 3
          have bfx4 := bfx 4
          have bfx5 := bfx 5
          clear bfx
          go_wp2_with fail
          go_roundw
          case rel =>
            refine ⟨k + 1, n, cp, cp, d, o, by simp, by omega, by go_grown, Lib.hid ?_, Lib.hid ?_⟩
            · repeat' (first | (with_reducible assumption) | (with_reducible exact heap_alloc_new _ _) | (with_reducible apply set6_new; with_reducible assumption) | (with_reducible refine (heap_alloc_old _ _ ?_).trans ?_) | (with_reducible refine (set6_old ?_).trans ?_) | go_size)
            · repeat' (first | (with_reducible assumption) | (with_reducible exact heap_alloc_new _ _) | (with_reducible apply set6_new; with_reducible assumption) | (with_reducible refine (heap_alloc_old _ _ ?_).trans ?_) | (with_reducible refine (set6_old ?_).trans ?_) | go_size)
          case measure => simp [intOf]; omega
      · have D := double_no ⟨n, wt, b, cp, o, d⟩ hmx
        simp only [ckV, zeroC] at D
        go_wp2_with fail
        refine (D _).mono ?_
        rintro e w2 ⟨rfl, g2⟩
        clear bq0 bq1 bq2 bq3 bq4 bq5 bfq0 bfq1 bfq2 bfq3 bfq4 bfq5 rq
        have sw2 := g2.size
        try simp only [World.size_alloc, World.size_setCell, World.size_drew] at sw2
        have B := chain (W := W) (by go_grown) g2
        have sB := B.size
        clear g2
        go_wp2_with (go_at_call 13; refine (up (awake_any _) (by go_grown : Below W.heap.size W _)).mono ?_; rintro e w9 ⟨rfl, B⟩)
        go_ret
        exact ⟨rfl, by go_grown⟩
    · by_cases hmx : MayP ⟨n, wt, b, cp, o, d⟩
      · obtain ⟨dz, lz, hlz, D, L1⟩ := wait_reset n wt b cp d o hmx
        go_wp2_with fail
        refine (D _).mono ?_
        rintro e w2 ⟨rfl, g2⟩
        clear bq0 bq1 bq2 bq3 bq4 bq5 bfq0 bfq1 bfq2 bfq3 bfq4 bfq5 rq
        have sw2 := g2.size
        try simp only [World.size_alloc, World.size_setCell, World.size_drew] at sw2
        have rc2 : w2.heap[W.heap.size]? = some (.cells #[.int .i64 n0, .int .i64 wt0, .int .i64 b, .int .i64 cp0, .bool o0, .int .i64 d0] 23 (0, 0)) := (g2.block _ (by go_size)).trans (by repeat' (first | (with_reducible assumption) | (with_reducible exact heap_alloc_new _ _) | (with_reducible apply set6_new; with_reducible assumption) | (with_reducible refine (heap_alloc_old _ _ ?_).trans ?_) | (with_reducible refine (set6_old ?_).trans ?_) | go_size))
        have B := chain (W := W) (by go_grown) g2
        have sB := B.size
        clear g2
        go_wp2_with fail
        obtain ⟨WS, hWS⟩ : ∃ WS, WS = w2.alloc (.cells #[.int .i64 n, .int .i64 b, .int .i64 b, .int .i64 cp, .bool o, .int .i64 dz] 23) := ⟨_, rfl⟩
        rw [← hWS]
        have rz : WS.heap[w2.heap.size]? = some (.cells #[.int .i64 n, .int .i64 b, .int .i64 b, .int .i64 cp, .bool o, .int .i64 dz] 23 (0, 0)) := by rw [hWS]; exact heap_alloc_new _ _
        have rc : WS.heap[W.heap.size]? = some (.cells #[.int .i64 n0, .int .i64 wt0, .int .i64 b, .int .i64 cp0, .bool o0, .int .i64 d0] 23 (0, 0)) := by rw [hWS]; exact (heap_alloc_old _ _ (lt_of_block rc2)).trans rc2
        have B : Below W.heap.size W WS := by rw [hWS]; go_grown
        have sB := B.size
        have ltz := lt_of_block rz
        have ltc := lt_of_block rc
        clear hWS rc2
        refine g_start (by kernel_rfl) ?_
        refine g_take (i := 0) (d := (some 72)) (v := ?_) rfl rfl (by kernel_rfl) (fun _ _ _ h => h) (by rfl) (fun w' hb' => ?_) ?_
        rotate_left
        · (try go_simp); (try with_reducible rfl)
        try simp only [Act.put, List.setIfInBounds_toArray, List.set_cons_zero, List.set_cons_succ]
        refine g_take (i := 1) (d := (some 73)) (v := ?_) rfl rfl (by kernel_rfl) (fun _ _ _ h => h) (by rfl) (fun w' hb' => ?_) ?_
        rotate_left
        · (try go_simp); (try with_reducible rfl)
        try simp only [Act.put, List.setIfInBounds_toArray, List.set_cons_zero, List.set_cons_succ]
        refine g_take (i := 2) (d := (some 74)) (v := ?_) rfl rfl (by kernel_rfl) (fun _ _ _ h => h) (by rfl) (fun w' hb' => ?_) ?_
        rotate_left
        · (try go_simp); (try with_reducible rfl)
        try simp only [Act.put, List.setIfInBounds_toArray, List.set_cons_zero, List.set_cons_succ]
        refine g_take (i := 3) (d := (some 75)) (v := ?_) rfl rfl (by kernel_rfl) (fun _ _ _ h => h) (by rfl) (fun w' hb' => ?_) ?_
        rotate_left
        · (try go_simp); (try with_reducible rfl)
        try simp only [Act.put, List.setIfInBounds_toArray, List.set_cons_zero, List.set_cons_succ]
        refine g_take (i := 4) (d := (some 76)) (v := ?_) rfl rfl (by kernel_rfl) (fun _ _ _ h => h) (by rfl) (fun w' hb' => ?_) ?_
        rotate_left
        · have z : w'.heap[w2.heap.size]? = some (.cells #[.int .i64 n, .int .i64 b, .int .i64 b, .int .i64 cp, .bool o, .int .i64 dz] 23 (0, 0)) := (hb'.block _ (by go_size)).trans (rz); obtain ⟨z0, z1, z2, z3, z4, z5, zf⟩ := block_cells z; (try go_simp); (try with_reducible rfl)
        try simp only [Act.put, List.setIfInBounds_toArray, List.set_cons_zero, List.set_cons_succ]
        refine g_take (i := 5) (d := (some 77)) (v := ?_) rfl rfl (by kernel_rfl) (fun _ _ _ h => h) (by rfl) (fun w' hb' => ?_) ?_
        rotate_left
        · (try go_simp); (try with_reducible rfl)
        try simp only [Act.put, List.setIfInBounds_toArray, List.set_cons_zero, List.set_cons_succ]
        refine g_take (i := 6) (d := (some 78)) (v := ?_) rfl rfl (by kernel_rfl) (fun _ _ _ h => h) (by rfl) (fun w' hb' => ?_) ?_
        rotate_left
        · have z : w'.heap[W.heap.size]? = some (.cells #[.int .i64 n0, .int .i64 wt0, .int .i64 b, .int .i64 cp0, .bool o0, .int .i64 d0] 23 (0, 0)) := (hb'.block _ (by go_size)).trans (rc); obtain ⟨z0, z1, z2, z3, z4, z5, zf⟩ := block_cells z; (try go_simp); (try with_reducible rfl)
        try simp only [Act.put, List.setIfInBounds_toArray, List.set_cons_zero, List.set_cons_succ]
        refine g_take (i := 7) (d := (some 79)) (v := ?_) rfl rfl (by kernel_rfl) (fun _ _ _ h => h) (by rfl) (fun w' hb' => ?_) ?_
        rotate_left
        · (try go_simp); (try with_reducible rfl)
        try simp only [Act.put, List.setIfInBounds_toArray, List.set_cons_zero, List.set_cons_succ]
        refine g_take (i := 8) (d := (some 80)) (v := ?_) rfl rfl (by kernel_rfl) (fun _ _ _ h => h) (by rfl) (fun w' hb' => ?_) ?_
        rotate_left
        · (try go_simp); (try with_reducible rfl)
        try simp only [Act.put, List.setIfInBounds_toArray, List.set_cons_zero, List.set_cons_succ]
        refine g_take (i := 9) (d := (some 81)) (v := ?_) rfl rfl (by kernel_rfl) (fun _ _ _ h => h) (by rfl) (fun w' hb' => ?_) ?_
        rotate_left
        · have z : w'.heap[w2.heap.size]? = some (.cells #[.int .i64 n, .int .i64 b, .int .i64 b, .int .i64 cp, .bool o, .int .i64 dz] 23 (0, 0)) := (hb'.block _ (by go_size)).trans (rz); obtain ⟨z0, z1, z2, z3, z4, z5, zf⟩ := block_cells z; (try go_simp); (try with_reducible rfl)
        try simp only [Act.put, List.setIfInBounds_toArray, List.set_cons_zero, List.set_cons_succ]
        refine g_take (i := 11) (d := (some 83)) (v := ?_) rfl rfl (by kernel_rfl) (fun _ _ _ h => h) (by rfl) (fun w' hb' => ?_) ?_
        rotate_left
        · (try go_simp); (try with_reducible rfl)
        try simp only [Act.put, List.setIfInBounds_toArray, List.set_cons_zero, List.set_cons_succ]
        refine g_take (i := 12) (d := (some 84)) (v := ?_) rfl rfl (by kernel_rfl) (fun _ _ _ h => h) (by rfl) (fun w' hb' => ?_) ?_
        rotate_left
        · have z : w'.heap[w2.heap.size]? = some (.cells #[.int .i64 n, .int .i64 b, .int .i64 b, .int .i64 cp, .bool o, .int .i64 dz] 23 (0, 0)) := (hb'.block _ (by go_size)).trans (rz); obtain ⟨z0, z1, z2, z3, z4, z5, zf⟩ := block_cells z; (try go_simp); (try with_reducible rfl)
        try simp only [Act.put, List.setIfInBounds_toArray, List.set_cons_zero, List.set_cons_succ]
        refine g_run (i := 10) rfl (by kernel_rfl) (by rfl) (fun K hK => ?_)
        go_simp; refine (L1 _).mono ?_; rintro e w3 ⟨rfl, g⟩; refine hK _ _ ⟨g, ?_⟩; have B := chain (W := W) (by go_grown) g; have sB := B.size; clear hK K g
        try simp only [Act.put, List.setIfInBounds_toArray, List.set_cons_zero, List.set_cons_succ]
        refine g_take (i := 13) (d := (some 85)) (v := ?_) rfl rfl (by kernel_rfl) (fun _ _ _ h => h) (by rfl) (fun w' hb' => ?_) ?_
        rotate_left
        · have q : decide (lz ≤ b) = true := by simp; omega
          try go_simp
          try simp only [q]
          try with_reducible rfl; (try go_simp); (try with_reducible rfl)
        try simp only [Act.put, List.setIfInBounds_toArray, List.set_cons_zero, List.set_cons_succ]
        refine g_take (i := 14) (d := (some 86)) (v := ?_) rfl rfl (by kernel_rfl) (fun _ _ _ h => h) (by rfl) (fun w' hb' => ?_) ?_
        rotate_left
        · (try go_simp); (try with_reducible rfl)
        try simp only [Act.put, List.setIfInBounds_toArray, List.set_cons_zero, List.set_cons_succ]
        refine g_take (i := 15) (d := (some 87)) (v := ?_) rfl rfl (by kernel_rfl) (fun _ _ _ h => h) (by rfl) (fun w' hb' => ?_) ?_
        rotate_left
        · (try go_simp); (try with_reducible rfl)
        try simp only [Act.put, List.setIfInBounds_toArray, List.set_cons_zero, List.set_cons_succ]
        refine g_take (i := 16) (d := (some 88)) (v := ?_) rfl rfl (by kernel_rfl) (fun _ _ _ h => h) (by rfl) (fun w' hb' => ?_) ?_
        rotate_left
        · (try go_simp); (try with_reducible rfl)
        try simp only [Act.put, List.setIfInBounds_toArray, List.set_cons_zero, List.set_cons_succ]
        refine g_run (i := 17) rfl (by kernel_rfl) (by rfl) (fun K hK => ?_)
        go_simp; refine (awake_any _).mono ?_; rintro e w4 ⟨rfl, g⟩; refine hK _ _ ⟨g, ?_⟩; have B := chain (W := W) (by go_grown) g; have sB := B.size; clear hK K g
        try simp only [Act.put, List.setIfInBounds_toArray, List.set_cons_zero, List.set_cons_succ]
        refine g_take (i := 18) (d := (some 90)) (v := ?_) rfl rfl (by kernel_rfl) (fun _ _ _ h => h) (by rfl) (fun w' hb' => ?_) ?_
        rotate_left
        · (try go_simp); (try with_reducible rfl)
        try simp only [Act.put, List.setIfInBounds_toArray, List.set_cons_zero, List.set_cons_succ]
        refine g_take (i := 19) (d := (some 4)) (v := ?_) rfl rfl (by kernel_rfl) (fun _ _ _ h => h) (by rfl) (fun w' hb' => ?_) ?_
        rotate_left
        · (try go_simp); (try with_reducible rfl)
        try simp only [Act.put, List.setIfInBounds_toArray, List.set_cons_zero, List.set_cons_succ]
        refine g_done (by kernel_rfl) ?_
        go_wp2
        go_ret
        exact ⟨rfl, B⟩
      · have D := reset_no ⟨n, wt, b, cp, o, d⟩ hmx
        simp only [ckV, zeroC] at D
        go_wp2_with fail
        refine (D _).mono ?_
        rintro e w2 ⟨rfl, g2⟩
        clear bq0 bq1 bq2 bq3 bq4 bq5 bfq0 bfq1 bfq2 bfq3 bfq4 bfq5 rq
        have sw2 := g2.size
        try simp only [World.size_alloc, World.size_setCell, World.size_drew] at sw2
        have rc2 : w2.heap[W.heap.size]? = some (.cells #[.int .i64 n0, .int .i64 wt0, .int .i64 b, .int .i64 cp0, .bool o0, .int .i64 d0] 23 (0, 0)) := (g2.block _ (by go_size)).trans (by repeat' (first | (with_reducible assumption) | (with_reducible exact heap_alloc_new _ _) | (with_reducible apply set6_new; with_reducible assumption) | (with_reducible refine (heap_alloc_old _ _ ?_).trans ?_) | (with_reducible refine (set6_old ?_).trans ?_) | go_size))
        have B := chain (W := W) (by go_grown) g2
        have sB := B.size
        clear g2
        go_wp2_with fail
        obtain ⟨WS, hWS⟩ : ∃ WS, WS = w2.alloc (.cells #[.int .i64 0, .int .i64 0, .int .i64 0, .int .i64 0, .bool false, .int .i64 0] 23) := ⟨_, rfl⟩
        rw [← hWS]
        have rz : WS.heap[w2.heap.size]? = some (.cells #[.int .i64 0, .int .i64 0, .int .i64 0, .int .i64 0, .bool false, .int .i64 0] 23 (0, 0)) := by rw [hWS]; exact heap_alloc_new _ _
        have rc : WS.heap[W.heap.size]? = some (.cells #[.int .i64 n0, .int .i64 wt0, .int .i64 b, .int .i64 cp0, .bool o0, .int .i64 d0] 23 (0, 0)) := by rw [hWS]; exact (heap_alloc_old _ _ (lt_of_block rc2)).trans rc2
        have B : Below W.heap.size W WS := by rw [hWS]; go_grown
        have sB := B.size
        have ltz := lt_of_block rz
        have ltc := lt_of_block rc
        clear hWS rc2
        refine g_start (by kernel_rfl) ?_
        refine g_take (i := 0) (d := (some 72)) (v := ?_) rfl rfl (by kernel_rfl) (fun _ _ _ h => h) (by rfl) (fun w' hb' => ?_) ?_
        rotate_left
        · (try go_simp); (try with_reducible rfl)
        try simp only [Act.put, List.setIfInBounds_toArray, List.set_cons_zero, List.set_cons_succ]
        refine g_take (i := 1) (d := (some 73)) (v := ?_) rfl rfl (by kernel_rfl) (fun _ _ _ h => h) (by rfl) (fun w' hb' => ?_) ?_
        rotate_left
        · (try go_simp); (try with_reducible rfl)
        try simp only [Act.put, List.setIfInBounds_toArray, List.set_cons_zero, List.set_cons_succ]
        refine g_take (i := 2) (d := (some 74)) (v := ?_) rfl rfl (by kernel_rfl) (fun _ _ _ h => h) (by rfl) (fun w' hb' => ?_) ?_
        rotate_left
        · (try go_simp); (try with_reducible rfl)
        try simp only [Act.put, List.setIfInBounds_toArray, List.set_cons_zero, List.set_cons_succ]
        refine g_skip (i := 3) (d := (some 75)) rfl rfl (by kernel_rfl) (fun _ _ _ h => h) (by rfl) ?_
        try simp only [Act.put, List.setIfInBounds_toArray, List.set_cons_zero, List.set_cons_succ]
        refine g_skip (i := 4) (d := (some 76)) rfl rfl (by kernel_rfl) (fun _ _ _ h => h) (by rfl) ?_
        try simp only [Act.put, List.setIfInBounds_toArray, List.set_cons_zero, List.set_cons_succ]
        refine g_skip (i := 5) (d := (some 77)) rfl rfl (by kernel_rfl) (fun _ _ _ h => h) (by rfl) ?_
        try simp only [Act.put, List.setIfInBounds_toArray, List.set_cons_zero, List.set_cons_succ]
        refine g_skip (i := 6) (d := (some 78)) rfl rfl (by kernel_rfl) (fun _ _ _ h => h) (by rfl) ?_
        try simp only [Act.put, List.setIfInBounds_toArray, List.set_cons_zero, List.set_cons_succ]
        refine g_skip (i := 7) (d := (some 79)) rfl rfl (by kernel_rfl) (fun _ _ _ h => h) (by rfl) ?_
        try simp only [Act.put, List.setIfInBounds_toArray, List.set_cons_zero, List.set_cons_succ]
        refine g_skip (i := 8) (d := (some 80)) rfl rfl (by kernel_rfl) (fun _ _ _ h => h) (by rfl) ?_
        try simp only [Act.put, List.setIfInBounds_toArray, List.set_cons_zero, List.set_cons_succ]
        refine g_skip (i := 9) (d := (some 81)) rfl rfl (by kernel_rfl) (fun _ _ _ h => h) (by rfl) ?_
        try simp only [Act.put, List.setIfInBounds_toArray, List.set_cons_zero, List.set_cons_succ]
        refine g_skip (i := 11) (d := (some 83)) rfl rfl (by kernel_rfl) (fun _ _ _ h => h) (by rfl) ?_
        try simp only [Act.put, List.setIfInBounds_toArray, List.set_cons_zero, List.set_cons_succ]
        refine g_skip (i := 12) (d := (some 84)) rfl rfl (by kernel_rfl) (fun _ _ _ h => h) (by rfl) ?_
        try simp only [Act.put, List.setIfInBounds_toArray, List.set_cons_zero, List.set_cons_succ]
        refine g_skip (i := 10) (d := (some 82)) rfl rfl (by kernel_rfl) (fun _ _ _ h => h) (by rfl) ?_
        try simp only [Act.put, List.setIfInBounds_toArray, List.set_cons_zero, List.set_cons_succ]
        refine g_skip (i := 13) (d := (some 85)) rfl rfl (by kernel_rfl) (fun _ _ _ h => h) (by rfl) ?_
        try simp only [Act.put, List.setIfInBounds_toArray, List.set_cons_zero, List.set_cons_succ]
        refine g_skip (i := 14) (d := (some 86)) rfl rfl (by kernel_rfl) (fun _ _ _ h => h) (by rfl) ?_
        try simp only [Act.put, List.setIfInBounds_toArray, List.set_cons_zero, List.set_cons_succ]
        refine g_take (i := 15) (d := (some 87)) (v := ?_) rfl rfl (by kernel_rfl) (fun _ _ _ h => h) (by rfl) (fun w' hb' => ?_) ?_
        rotate_left
        · (try go_simp); (try with_reducible rfl)
        try simp only [Act.put, List.setIfInBounds_toArray, List.set_cons_zero, List.set_cons_succ]
        refine g_take (i := 16) (d := (some 88)) (v := ?_) rfl rfl (by kernel_rfl) (fun _ _ _ h => h) (by rfl) (fun w' hb' => ?_) ?_
        rotate_left
        · (try go_simp); (try with_reducible rfl)
        try simp only [Act.put, List.setIfInBounds_toArray, List.set_cons_zero, List.set_cons_succ]
        refine g_run (i := 17) rfl (by kernel_rfl) (by rfl) (fun K hK => ?_)
        go_simp; refine (awake_any _).mono ?_; rintro e w4 ⟨rfl, g⟩; refine hK _ _ ⟨g, ?_⟩; have B := chain (W := W) (by go_grown) g; have sB := B.size; clear hK K g
        try simp only [Act.put, List.setIfInBounds_toArray, List.set_cons_zero, List.set_cons_succ]
        refine g_take (i := 18) (d := (some 90)) (v := ?_) rfl rfl (by kernel_rfl) (fun _ _ _ h => h) (by rfl) (fun w' hb' => ?_) ?_
        rotate_left
        · (try go_simp); (try with_reducible rfl)
        try simp only [Act.put, List.setIfInBounds_toArray, List.set_cons_zero, List.set_cons_succ]
        refine g_take (i := 19) (d := (some 4)) (v := ?_) rfl rfl (by kernel_rfl) (fun _ _ _ h => h) (by rfl) (fun w' hb' => ?_) ?_
        rotate_left
        · (try go_simp); (try with_reducible rfl)
        try simp only [Act.put, List.setIfInBounds_toArray, List.set_cons_zero, List.set_cons_succ]
        refine g_done (by kernel_rfl) ?_
        go_wp2
        go_ret
        exact ⟨rfl, B⟩
end Go.Proofs.Ytgopmffekhhmjaa
