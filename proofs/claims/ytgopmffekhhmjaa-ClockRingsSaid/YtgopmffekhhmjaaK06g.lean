/- The walk of the law ClockRings, done. Written by wip/tools/gen06g.py. -/
import Derived.Test.YtgopmffekhhmjaaK06f
import Derived.Test.YtgopmffekhhmjaaK06r
namespace Go.Proofs.Ytgopmffekhhmjaa
open Go.RowKit
set_option linter.unusedVariables false
set_option linter.unusedSimpArgs false
set_option maxRecDepth 100000 in
set_option maxHeartbeats 1000000 in
theorem rings_far (c : Ck) (hm : MayP c) (h : 500 < c.wait ∨ 1099511627176 < c.now) (W : World) : Calls Try.prog 6 #[ckV c] W fun e w' => e = .returned (.bool true) ∧ Below W.heap.size W w' := by
  have S := start_yes c hm
  obtain ⟨n, wt, b, cp, o, d⟩ := c
  simp only [ckV] at S h
  unfold MayP at hm
  simp only [] at hm
  obtain ⟨m1, m2, m3, m4, m5, m6, m7, m8⟩ := hm
  clear m7 m8
  have L : ∀ w, Calls Try.prog 12 #[.agg #[.int .i64 n, .int .i64 wt, .int .i64 b, .int .i64 cp, .bool true, .int .i64 (n + wt)]] w fun e w' => e = .returned (.int .i64 wt) ∧ Below w.heap.size w w' := fun w => by
    have t := left_any ⟨n, wt, b, cp, true, n + wt⟩ w
    have hm1 : mayC ⟨n, wt, b, cp, true, n + wt⟩ = true := mayC_true (by unfold MayP; simp; omega)
    have hl : leftC ⟨n, wt, b, cp, true, n + wt⟩ = wt := by unfold leftC; rw [hm1]; simp; omega
    rw [hl] at t
    exact t
  have hcase : 500 < wt ∨ (wt ≤ 500 ∧ 1099511627176 < n) := by omega
  clear h
  unfold ckV
  rcases hcase with h5 | ⟨h5, h6⟩
  all_goals
    go_enter Try.func6, Try.ntmps6
    go_wp2_with fail
    refine (S _).mono ?_
    rintro e w1 ⟨rfl, g1⟩
    have sw1 := g1.size
    try simp only [World.size_alloc, World.size_setCell, World.size_drew] at sw1
    have rc : w1.heap[W.heap.size]? = some (.cells #[.int .i64 n, .int .i64 wt, .int .i64 b, .int .i64 cp, .bool o, .int .i64 d] 23 (0, 0)) := (g1.block _ (by go_size)).trans (by repeat' (first | (with_reducible assumption) | (with_reducible exact heap_alloc_new _ _) | (with_reducible apply set6_new; with_reducible assumption) | (with_reducible refine (heap_alloc_old _ _ ?_).trans ?_) | (with_reducible refine (set6_old ?_).trans ?_) | go_size))
    have B := chain (W := W) (by go_grown) g1
    have sB := B.size
    clear g1
    have ltc := lt_of_block rc
    obtain ⟨bc0, bc1, bc2, bc3, bc4, bc5, bfc⟩ := block_cells rc
    have bfc0 := bfc 0
    have bfc1 := bfc 1
    have bfc2 := bfc 2
    have bfc3 := bfc 3
    have bfc4 := bfc 4
    have bfc5 := bfc 5
    clear bfc
    go_wp2_with fail
    obtain ⟨WS, hWS⟩ : ∃ WS, WS = (((((w1.setCell ⟨W.heap.size, 0, none⟩ (.int .i64 n)).setCell ⟨W.heap.size, 1, none⟩ (.int .i64 wt)).setCell ⟨W.heap.size, 2, none⟩ (.int .i64 b)).setCell ⟨W.heap.size, 3, none⟩ (.int .i64 cp)).setCell ⟨W.heap.size, 4, none⟩ (.bool true)).setCell ⟨W.heap.size, 5, none⟩ (.int .i64 (n + wt)) := ⟨_, rfl⟩
    rw [← hWS]
    have rs : WS.heap[W.heap.size]? = some (.cells #[.int .i64 n, .int .i64 wt, .int .i64 b, .int .i64 cp, .bool true, .int .i64 (n + wt)] 23 (0, 0)) := by rw [hWS]; exact set6_new rc
    have B : Below W.heap.size W WS := by rw [hWS]; go_grown
    have ltS := lt_of_block rs
    clear hWS rc bc0 bc1 bc2 bc3 bc4 bc5 bfc0 bfc1 bfc2 bfc3 bfc4 bfc5
    refine g_start (by kernel_rfl) ?_
    refine g_take (i := 0) (d := (some 29)) (v := ?_) rfl rfl (by kernel_rfl) (fun _ _ _ h => h) (by rfl) (fun w' hb' => ?_) ?_
    rotate_left
    · have z : w'.heap[W.heap.size]? = some (.cells #[.int .i64 n, .int .i64 wt, .int .i64 b, .int .i64 cp, .bool true, .int .i64 (n + wt)] 23 (0, 0)) := (hb'.block _ (by go_size)).trans (rs); obtain ⟨z0, z1, z2, z3, z4, z5, zf⟩ := block_cells z; (try go_simp); (try with_reducible rfl)
    try simp only [Act.put, List.setIfInBounds_toArray, List.set_cons_zero, List.set_cons_succ]
    refine g_take (i := 2) (d := (some 31)) (v := ?_) rfl rfl (by kernel_rfl) (fun _ _ _ h => h) (by rfl) (fun w' hb' => ?_) ?_
    rotate_left
    · (try go_simp); (try with_reducible rfl)
    try simp only [Act.put, List.setIfInBounds_toArray, List.set_cons_zero, List.set_cons_succ]
    refine g_take (i := 3) (d := (some 32)) (v := ?_) rfl rfl (by kernel_rfl) (fun _ _ _ h => h) (by rfl) (fun w' hb' => ?_) ?_
    rotate_left
    · have z : w'.heap[W.heap.size]? = some (.cells #[.int .i64 n, .int .i64 wt, .int .i64 b, .int .i64 cp, .bool true, .int .i64 (n + wt)] 23 (0, 0)) := (hb'.block _ (by go_size)).trans (rs); obtain ⟨z0, z1, z2, z3, z4, z5, zf⟩ := block_cells z; (try go_simp); (try with_reducible rfl)
    try simp only [Act.put, List.setIfInBounds_toArray, List.set_cons_zero, List.set_cons_succ]
    refine g_run (i := 1) rfl (by kernel_rfl) (by rfl) (fun K hK => ?_)
    go_simp; refine (L _).mono ?_; rintro e w3 ⟨rfl, g⟩; refine hK _ _ ⟨g, ?_⟩; have B := chain (W := W) (by go_grown) g; have sB := B.size; clear hK K g
    try simp only [Act.put, List.setIfInBounds_toArray, List.set_cons_zero, List.set_cons_succ]
    refine g_take (i := 4) (d := (some 33)) (v := ?_) rfl rfl (by kernel_rfl) (fun _ _ _ h => h) (by rfl) (fun w' hb' => ?_) ?_
    rotate_left
    · (try go_simp); (try with_reducible rfl)
    try simp only [Act.put, List.setIfInBounds_toArray, List.set_cons_zero, List.set_cons_succ]
    refine g_take (i := 5) (d := (some 34)) (v := ?_) rfl rfl (by kernel_rfl) (fun _ _ _ h => h) (by rfl) (fun w' hb' => ?_) ?_
    rotate_left
    · (try go_simp); (try with_reducible rfl)
    try simp only [Act.put, List.setIfInBounds_toArray, List.set_cons_zero, List.set_cons_succ]
    refine g_run (i := 6) rfl (by kernel_rfl) (by rfl) (fun K hK => ?_)
    go_simp; refine (awake_any _).mono ?_; rintro e w4 ⟨rfl, g⟩; refine hK _ _ ⟨g, ?_⟩; have B := chain (W := W) (by go_grown) g; have sB := B.size; clear hK K g
    try simp only [Act.put, List.setIfInBounds_toArray, List.set_cons_zero, List.set_cons_succ]
    refine g_take (i := 7) (d := (some 36)) (v := ?_) rfl rfl (by kernel_rfl) (fun _ _ _ h => h) (by rfl) (fun w' hb' => ?_) ?_
    rotate_left
    · (try go_simp); (try with_reducible rfl)
    try simp only [Act.put, List.setIfInBounds_toArray, List.set_cons_zero, List.set_cons_succ]
    refine g_take (i := 8) (d := (some 2)) (v := ?_) rfl rfl (by kernel_rfl) (fun _ _ _ h => h) (by rfl) (fun w' hb' => ?_) ?_
    rotate_left
    · (try go_simp); (try with_reducible rfl)
    try simp only [Act.put, List.setIfInBounds_toArray, List.set_cons_zero, List.set_cons_succ]
    refine g_done (by kernel_rfl) ?_
    go_wp2
    go_ret
    exact ⟨rfl, B⟩
theorem rings_any (c : Ck) (W : World) : Calls Try.prog 6 #[ckV c] W fun e w' => e = .returned (.bool true) ∧ Below W.heap.size W w' := by
  by_cases hm : MayP c
  · by_cases h1 : c.wait ≤ 500
    · by_cases h2 : c.now ≤ 1099511627176
      · exact rings_near c hm h1 h2 W
      · exact rings_far c hm (.inr (by omega)) W
    · exact rings_far c hm (.inl (by omega)) W
  · exact rings_no c hm W
end Go.Proofs.Ytgopmffekhhmjaa
