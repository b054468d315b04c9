/- The walk of the law ClockNews. Written by wip/tools/gen06j.py. -/
import Derived.Test.YtfodafabkmepbaaK06i
import Derived.Test.YtfodafabkmepbaaK06r
namespace Go.Proofs.Ytfodafabkmepbaa
open Go.RowKit
set_option linter.unusedVariables false
set_option linter.unusedSimpArgs false
theorem may_b (c : Ck) (w : World) : Calls Try.prog 11 #[ckV c] w fun e w' => e = .returned (.bool (mayC c)) ∧ Below w.heap.size w w' :=
  (may_any c w).mono fun e w' ⟨a, b⟩ => ⟨a, by subst b; exact (Below.refl _ _).alloc (Nat.le_refl _) _⟩
set_option maxRecDepth 100000 in
set_option maxHeartbeats 1000000 in
theorem news_true_true (bs ms n wt b cp d lf : Int) (o : Bool) (W : World)
    (N : (∀ w, Calls Try.prog 8 #[.int .i64 bs, .int .i64 ms] w fun e w' => e = .returned (.tuple #[.agg #[.int .i64 0, .int .i64 bs, .int .i64 bs, .int .i64 ms, .bool false, .int .i64 0], .int .i64 0]) ∧ Below w.heap.size w w'))
    (M1 : (∀ w, Calls Try.prog 9 #[.agg #[.int .i64 0, .int .i64 bs, .int .i64 bs, .int .i64 ms, .bool false, .int .i64 0]] w fun e w' => e = .returned (.bool true) ∧ Below w.heap.size w w'))
    (M2 : (∀ w, Calls Try.prog 9 #[.agg #[.int .i64 n, .int .i64 wt, .int .i64 b, .int .i64 cp, .bool o, .int .i64 d]] w fun e w' => e = .returned (.bool true) ∧ Below w.heap.size w w'))
    (M3 : (∀ w, Calls Try.prog 11 #[.agg #[.int .i64 n, .int .i64 wt, .int .i64 b, .int .i64 cp, .bool o, .int .i64 d]] w fun e w' => e = .returned (.bool true) ∧ Below w.heap.size w w'))
    (L1 : (∀ w, Calls Try.prog 12 #[.agg #[.int .i64 n, .int .i64 wt, .int .i64 b, .int .i64 cp, .bool o, .int .i64 d]] w fun e w' => e = .returned (.int .i64 lf) ∧ Below w.heap.size w w'))
    (L2 : (∀ w, Calls Try.prog 10 #[.agg #[.int .i64 n, .int .i64 wt, .int .i64 b, .int .i64 cp, .bool o, .int .i64 d]] w fun e w' => e = .returned (.int .i64 lf) ∧ Below w.heap.size w w'))
    : Calls Try.prog 3 #[.int .i64 bs, .int .i64 ms, .agg #[.int .i64 n, .int .i64 wt, .int .i64 b, .int .i64 cp, .bool o, .int .i64 d]] W fun e w' => e = .returned (.bool true) ∧ Below W.heap.size W w' := by
  go_enter Try.func3, Try.ntmps3
  go_wp2_with fail
  refine (N _).mono ?_
  rintro e w1 ⟨rfl, g1⟩
  have sw1 := g1.size
  try simp only [World.size_alloc, World.size_setCell, World.size_drew] at sw1
  have rc : w1.heap[W.heap.size]? = some (.cells #[.int .i64 n, .int .i64 wt, .int .i64 b, .int .i64 cp, .bool o, .int .i64 d] 23 (0, 0)) := (g1.block _ (by go_size)).trans (by repeat' (first | (with_reducible assumption) | (with_reducible exact heap_alloc_new _ _) | (with_reducible exact (two_allocs _ _ _).2.1) | (with_reducible apply set6_new; with_reducible assumption) | (with_reducible refine (heap_alloc_old _ _ ?_).trans ?_) | (with_reducible refine (set6_old ?_).trans ?_) | go_size))
  have B := chain (W := W) (by go_grown) g1
  have sB := B.size
  clear g1
  have ltc := lt_of_block rc
  obtain ⟨bc0, bc1, bc2, bc3, bc4, bc5, bfc⟩ := block_cells rc
  have bfc0 := bfc 0
  have bfc1 := bfc 1
  have bfc2 := bfc 2
  have bfc3 := bfc 3
  have bfc4 := bfc 4
  have bfc5 := bfc 5
  clear bfc
  go_wp2_with fail
  refine (M1 _).mono ?_
  rintro e w2 ⟨rfl, g2⟩
  clear bc0 bc1 bc2 bc3 bc4 bc5 bfc0 bfc1 bfc2 bfc3 bfc4 bfc5
  have sw2 := g2.size
  try simp only [World.size_alloc, World.size_setCell, World.size_drew] at sw2
  have rc2 : w2.heap[W.heap.size]? = some (.cells #[.int .i64 n, .int .i64 wt, .int .i64 b, .int .i64 cp, .bool o, .int .i64 d] 23 (0, 0)) := (g2.block _ (by go_size)).trans (by repeat' (first | (with_reducible assumption) | (with_reducible exact heap_alloc_new _ _) | (with_reducible exact (two_allocs _ _ _).2.1) | (with_reducible apply set6_new; with_reducible assumption) | (with_reducible refine (heap_alloc_old _ _ ?_).trans ?_) | (with_reducible refine (set6_old ?_).trans ?_) | go_size))
  have rx : w2.heap[w1.heap.size]? = some (.cells #[.int .i64 0, .int .i64 bs, .int .i64 bs, .int .i64 ms, .bool false, .int .i64 0] 23 (0, 0)) := (g2.block _ (by go_size)).trans (by repeat' (first | (with_reducible assumption) | (with_reducible exact heap_alloc_new _ _) | (with_reducible exact (two_allocs _ _ _).2.1) | (with_reducible apply set6_new; with_reducible assumption) | (with_reducible refine (heap_alloc_old _ _ ?_).trans ?_) | (with_reducible refine (set6_old ?_).trans ?_) | go_size))
  have rv : w2.heap[(w1.heap.size + 1)]? = some (.cells #[.int .i64 0, .int .i64 bs, .int .i64 bs, .int .i64 ms, .bool false, .int .i64 0] 23 (0, 0)) := (g2.block _ (by go_size)).trans (by repeat' (first | (with_reducible assumption) | (with_reducible exact heap_alloc_new _ _) | (with_reducible exact (two_allocs _ _ _).2.1) | (with_reducible apply set6_new; with_reducible assumption) | (with_reducible refine (heap_alloc_old _ _ ?_).trans ?_) | (with_reducible refine (set6_old ?_).trans ?_) | go_size))
  have B := chain (W := W) (by go_grown) g2
  have sB := B.size
  clear g2
  clear rc
  have ltc := lt_of_block rc2
  obtain ⟨bc0, bc1, bc2, bc3, bc4, bc5, bfc⟩ := block_cells rc2
  have bfc0 := bfc 0
  have bfc1 := bfc 1
  have bfc2 := bfc 2
  have bfc3 := bfc 3
  have bfc4 := bfc 4
  have bfc5 := bfc 5
  clear bfc
  have ltx := lt_of_block rx
  obtain ⟨bx0, bx1, bx2, bx3, bx4, bx5, bfx⟩ := block_cells rx
  have bfx0 := bfx 0
  have bfx1 := bfx 1
  have bfx2 := bfx 2
  have bfx3 := bfx 3
  have bfx4 := bfx 4
  have bfx5 := bfx 5
  clear bfx
  have ltv := lt_of_block rv
  obtain ⟨bv0, bv1, bv2, bv3, bv4, bv5, bfv⟩ := block_cells rv
  have bfv0 := bfv 0
  have bfv1 := bfv 1
  have bfv2 := bfv 2
  have bfv3 := bfv 3
  have bfv4 := bfv 4
  have bfv5 := bfv 5
  clear bfv
  go_wp2_with fail
  refine (M2 _).mono ?_
  rintro e w3 ⟨rfl, g3⟩
  clear bc0 bc1 bc2 bc3 bc4 bc5 bfc0 bfc1 bfc2 bfc3 bfc4 bfc5 bx0 bx1 bx2 bx3 bx4 bx5 bfx0 bfx1 bfx2 bfx3 bfx4 bfx5 bv0 bv1 bv2 bv3 bv4 bv5 bfv0 bfv1 bfv2 bfv3 bfv4 bfv5
  have sw3 := g3.size
  try simp only [World.size_alloc, World.size_setCell, World.size_drew] at sw3
  have rc3 : w3.heap[W.heap.size]? = some (.cells #[.int .i64 n, .int .i64 wt, .int .i64 b, .int .i64 cp, .bool o, .int .i64 d] 23 (0, 0)) := (g3.block _ (by go_size)).trans (by repeat' (first | (with_reducible assumption) | (with_reducible exact heap_alloc_new _ _) | (with_reducible exact (two_allocs _ _ _).2.1) | (with_reducible apply set6_new; with_reducible assumption) | (with_reducible refine (heap_alloc_old _ _ ?_).trans ?_) | (with_reducible refine (set6_old ?_).trans ?_) | go_size))
  have B := chain (W := W) (by go_grown) g3
  have sB := B.size
  clear g3
  clear rc2 rx rv
  have ltc := lt_of_block rc3
  obtain ⟨bc0, bc1, bc2, bc3, bc4, bc5, bfc⟩ := block_cells rc3
  have bfc0 := bfc 0
  have bfc1 := bfc 1
  have bfc2 := bfc 2
  have bfc3 := bfc 3
  have bfc4 := bfc 4
  have bfc5 := bfc 5
  clear bfc
  go_wp2_with fail
  refine (L2 _).mono ?_
  rintro e w4 ⟨rfl, g4⟩
  clear bc0 bc1 bc2 bc3 bc4 bc5 bfc0 bfc1 bfc2 bfc3 bfc4 bfc5
  have sw4 := g4.size
  try simp only [World.size_alloc, World.size_setCell, World.size_drew] at sw4
  have rc4 : w4.heap[W.heap.size]? = some (.cells #[.int .i64 n, .int .i64 wt, .int .i64 b, .int .i64 cp, .bool o, .int .i64 d] 23 (0, 0)) := (g4.block _ (by go_size)).trans (by repeat' (first | (with_reducible assumption) | (with_reducible exact heap_alloc_new _ _) | (with_reducible exact (two_allocs _ _ _).2.1) | (with_reducible apply set6_new; with_reducible assumption) | (with_reducible refine (heap_alloc_old _ _ ?_).trans ?_) | (with_reducible refine (set6_old ?_).trans ?_) | go_size))
  have B := chain (W := W) (by go_grown) g4
  have sB := B.size
  clear g4
  clear rc3
  have ltc := lt_of_block rc4
  obtain ⟨bc0, bc1, bc2, bc3, bc4, bc5, bfc⟩ := block_cells rc4
  have bfc0 := bfc 0
  have bfc1 := bfc 1
  have bfc2 := bfc 2
  have bfc3 := bfc 3
  have bfc4 := bfc 4
  have bfc5 := bfc 5
  clear bfc
  go_wp2_with fail
  clear bc0 bc1 bc2 bc3 bc4 bc5 bfc0 bfc1 bfc2 bfc3 bfc4 bfc5
  refine g_start (by kernel_rfl) ?_
  refine g_take (i := 0) (d := (some 42)) (v := ?_) rfl rfl (by kernel_rfl) (fun _ _ _ h => h) (by rfl) (fun w' hb' => ?_) ?_
  rotate_left
  · have z : w'.heap[W.heap.size]? = some (.cells #[.int .i64 n, .int .i64 wt, .int .i64 b, .int .i64 cp, .bool o, .int .i64 d] 23 (0, 0)) := (hb'.block _ (by go_size)).trans (rc4); obtain ⟨z0, z1, z2, z3, z4, z5, zf⟩ := block_cells z; (try go_simp); (try with_reducible rfl)
  try simp only [Act.put, List.setIfInBounds_toArray, List.set_cons_zero, List.set_cons_succ]
  refine g_take (i := 2) (d := (some 44)) (v := ?_) rfl rfl (by kernel_rfl) (fun _ _ _ h => h) (by rfl) (fun w' hb' => ?_) ?_
  rotate_left
  · have z : w'.heap[W.heap.size]? = some (.cells #[.int .i64 n, .int .i64 wt, .int .i64 b, .int .i64 cp, .bool o, .int .i64 d] 23 (0, 0)) := (hb'.block _ (by go_size)).trans (rc4); obtain ⟨z0, z1, z2, z3, z4, z5, zf⟩ := block_cells z; (try go_simp); (try with_reducible rfl)
  try simp only [Act.put, List.setIfInBounds_toArray, List.set_cons_zero, List.set_cons_succ]
  refine g_run (i := 1) rfl (by kernel_rfl) (by rfl) (fun K hK => ?_)
  go_simp; refine (M3 _).mono ?_; rintro e w5 ⟨rfl, g⟩; refine hK _ _ ⟨g, ?_⟩; have B := chain (W := W) (by go_grown) g; have sB := B.size; have rc5 := (g.block _ (lt_of_block (w := w4.drew) rc4)).trans rc4; clear hK K g rc4
  try simp only [Act.put, List.setIfInBounds_toArray, List.set_cons_zero, List.set_cons_succ]
  refine g_run (i := 3) rfl (by kernel_rfl) (by rfl) (fun K hK => ?_)
  go_simp; refine (M2 _).mono ?_; rintro e w6 ⟨rfl, g⟩; refine hK _ _ ⟨g, ?_⟩; have B := chain (W := W) (by go_grown) g; have sB := B.size; have rc6 := (g.block _ (lt_of_block (w := w5) rc5)).trans rc5; clear hK K g rc5
  try simp only [Act.put, List.setIfInBounds_toArray, List.set_cons_zero, List.set_cons_succ]
  refine g_take (i := 4) (d := (some 46)) (v := ?_) rfl rfl (by kernel_rfl) (fun _ _ _ h => h) (by rfl) (fun w' hb' => ?_) ?_
  rotate_left
  · (try go_simp); (try with_reducible rfl)
  try simp only [Act.put, List.setIfInBounds_toArray, List.set_cons_zero, List.set_cons_succ]
  refine g_take (i := 5) (d := (some 47)) (v := ?_) rfl rfl (by kernel_rfl) (fun _ _ _ h => h) (by rfl) (fun w' hb' => ?_) ?_
  rotate_left
  · (try go_simp); (try with_reducible rfl)
  try simp only [Act.put, List.setIfInBounds_toArray, List.set_cons_zero, List.set_cons_succ]
  refine g_take (i := 6) (d := (some 48)) (v := ?_) rfl rfl (by kernel_rfl) (fun _ _ _ h => h) (by rfl) (fun w' hb' => ?_) ?_
  rotate_left
  · have z : w'.heap[W.heap.size]? = some (.cells #[.int .i64 n, .int .i64 wt, .int .i64 b, .int .i64 cp, .bool o, .int .i64 d] 23 (0, 0)) := (hb'.block _ (lt_of_block rc6)).trans (rc6); obtain ⟨z0, z1, z2, z3, z4, z5, zf⟩ := block_cells z; (try go_simp); (try with_reducible rfl)
  try simp only [Act.put, List.setIfInBounds_toArray, List.set_cons_zero, List.set_cons_succ]
  refine g_take (i := 8) (d := (some 50)) (v := ?_) rfl rfl (by kernel_rfl) (fun _ _ _ h => h) (by rfl) (fun w' hb' => ?_) ?_
  rotate_left
  · (try go_simp); (try with_reducible rfl)
  try simp only [Act.put, List.setIfInBounds_toArray, List.set_cons_zero, List.set_cons_succ]
  refine g_run (i := 7) rfl (by kernel_rfl) (by rfl) (fun K hK => ?_)
  go_simp; refine (L1 _).mono ?_; rintro e w7 ⟨rfl, g⟩; refine hK _ _ ⟨g, ?_⟩; have B := chain (W := W) (by go_grown) g; have sB := B.size; clear hK K g
  try simp only [Act.put, List.setIfInBounds_toArray, List.set_cons_zero, List.set_cons_succ]
  refine g_take (i := 9) (d := (some 51)) (v := ?_) rfl rfl (by kernel_rfl) (fun _ _ _ h => h) (by rfl) (fun w' hb' => ?_) ?_
  rotate_left
  · (try go_simp); (try with_reducible rfl)
  try simp only [Act.put, List.setIfInBounds_toArray, List.set_cons_zero, List.set_cons_succ]
  refine g_take (i := 10) (d := (some 52)) (v := ?_) rfl rfl (by kernel_rfl) (fun _ _ _ h => h) (by rfl) (fun w' hb' => ?_) ?_
  rotate_left
  · (try go_simp); (try with_reducible rfl)
  try simp only [Act.put, List.setIfInBounds_toArray, List.set_cons_zero, List.set_cons_succ]
  refine g_take (i := 11) (d := (some 53)) (v := ?_) rfl rfl (by kernel_rfl) (fun _ _ _ h => h) (by rfl) (fun w' hb' => ?_) ?_
  rotate_left
  · (try go_simp); (try with_reducible rfl)
  try simp only [Act.put, List.setIfInBounds_toArray, List.set_cons_zero, List.set_cons_succ]
  refine g_run (i := 12) rfl (by kernel_rfl) (by rfl) (fun K hK => ?_)
  go_simp; refine (awake_any _).mono ?_; rintro e w8 ⟨rfl, g⟩; refine hK _ _ ⟨g, ?_⟩; have B := chain (W := W) (by go_grown) g; have sB := B.size; clear hK K g
  try simp only [Act.put, List.setIfInBounds_toArray, List.set_cons_zero, List.set_cons_succ]
  refine g_take (i := 13) (d := (some 55)) (v := ?_) rfl rfl (by kernel_rfl) (fun _ _ _ h => h) (by rfl) (fun w' hb' => ?_) ?_
  rotate_left
  · (try go_simp); (try with_reducible rfl)
  try simp only [Act.put, List.setIfInBounds_toArray, List.set_cons_zero, List.set_cons_succ]
  refine g_take (i := 14) (d := (some 6)) (v := ?_) rfl rfl (by kernel_rfl) (fun _ _ _ h => h) (by rfl) (fun w' hb' => ?_) ?_
  rotate_left
  · (try go_simp); (try with_reducible rfl)
  try simp only [Act.put, List.setIfInBounds_toArray, List.set_cons_zero, List.set_cons_succ]
  refine g_done (by kernel_rfl) ?_
  go_wp2
  go_ret
  exact ⟨rfl, B⟩
set_option maxRecDepth 100000 in
set_option maxHeartbeats 1000000 in
theorem news_true_false (bs ms n wt b cp d : Int) (o : Bool) (W : World)
    (N : (∀ w, Calls Try.prog 8 #[.int .i64 bs, .int .i64 ms] w fun e w' => e = .returned (.tuple #[.agg #[.int .i64 0, .int .i64 bs, .int .i64 bs, .int .i64 ms, .bool false, .int .i64 0], .int .i64 0]) ∧ Below w.heap.size w w'))
    (M1 : (∀ w, Calls Try.prog 9 #[.agg #[.int .i64 0, .int .i64 bs, .int .i64 bs, .int .i64 ms, .bool false, .int .i64 0]] w fun e w' => e = .returned (.bool true) ∧ Below w.heap.size w w'))
    (M2 : (∀ w, Calls Try.prog 9 #[.agg #[.int .i64 n, .int .i64 wt, .int .i64 b, .int .i64 cp, .bool o, .int .i64 d]] w fun e w' => e = .returned (.bool false) ∧ Below w.heap.size w w'))
    (M3 : (∀ w, Calls Try.prog 11 #[.agg #[.int .i64 n, .int .i64 wt, .int .i64 b, .int .i64 cp, .bool o, .int .i64 d]] w fun e w' => e = .returned (.bool false) ∧ Below w.heap.size w w'))
    (L1 : (∀ w, Calls Try.prog 12 #[.agg #[.int .i64 n, .int .i64 wt, .int .i64 b, .int .i64 cp, .bool o, .int .i64 d]] w fun e w' => e = .returned (.int .i64 0) ∧ Below w.heap.size w w'))
    : Calls Try.prog 3 #[.int .i64 bs, .int .i64 ms, .agg #[.int .i64 n, .int .i64 wt, .int .i64 b, .int .i64 cp, .bool o, .int .i64 d]] W fun e w' => e = .returned (.bool true) ∧ Below W.heap.size W w' := by
  go_enter Try.func3, Try.ntmps3
  go_wp2_with fail
  refine (N _).mono ?_
  rintro e w1 ⟨rfl, g1⟩
  have sw1 := g1.size
  try simp only [World.size_alloc, World.size_setCell, World.size_drew] at sw1
  have rc : w1.heap[W.heap.size]? = some (.cells #[.int .i64 n, .int .i64 wt, .int .i64 b, .int .i64 cp, .bool o, .int .i64 d] 23 (0, 0)) := (g1.block _ (by go_size)).trans (by repeat' (first | (with_reducible assumption) | (with_reducible exact heap_alloc_new _ _) | (with_reducible exact (two_allocs _ _ _).2.1) | (with_reducible apply set6_new; with_reducible assumption) | (with_reducible refine (heap_alloc_old _ _ ?_).trans ?_) | (with_reducible refine (set6_old ?_).trans ?_) | go_size))
  have B := chain (W := W) (by go_grown) g1
  have sB := B.size
  clear g1
  have ltc := lt_of_block rc
  obtain ⟨bc0, bc1, bc2, bc3, bc4, bc5, bfc⟩ := block_cells rc
  have bfc0 := bfc 0
  have bfc1 := bfc 1
  have bfc2 := bfc 2
  have bfc3 := bfc 3
  have bfc4 := bfc 4
  have bfc5 := bfc 5
  clear bfc
  go_wp2_with fail
  refine (M1 _).mono ?_
  rintro e w2 ⟨rfl, g2⟩
  clear bc0 bc1 bc2 bc3 bc4 bc5 bfc0 bfc1 bfc2 bfc3 bfc4 bfc5
  have sw2 := g2.size
  try simp only [World.size_alloc, World.size_setCell, World.size_drew] at sw2
  have rc2 : w2.heap[W.heap.size]? = some (.cells #[.int .i64 n, .int .i64 wt, .int .i64 b, .int .i64 cp, .bool o, .int .i64 d] 23 (0, 0)) := (g2.block _ (by go_size)).trans (by repeat' (first | (with_reducible assumption) | (with_reducible exact heap_alloc_new _ _) | (with_reducible exact (two_allocs _ _ _).2.1) | (with_reducible apply set6_new; with_reducible assumption) | (with_reducible refine (heap_alloc_old _ _ ?_).trans ?_) | (with_reducible refine (set6_old ?_).trans ?_) | go_size))
  have rx : w2.heap[w1.heap.size]? = some (.cells #[.int .i64 0, .int .i64 bs, .int .i64 bs, .int .i64 ms, .bool false, .int .i64 0] 23 (0, 0)) := (g2.block _ (by go_size)).trans (by repeat' (first | (with_reducible assumption) | (with_reducible exact heap_alloc_new _ _) | (with_reducible exact (two_allocs _ _ _).2.1) | (with_reducible apply set6_new; with_reducible assumption) | (with_reducible refine (heap_alloc_old _ _ ?_).trans ?_) | (with_reducible refine (set6_old ?_).trans ?_) | go_size))
  have rv : w2.heap[(w1.heap.size + 1)]? = some (.cells #[.int .i64 0, .int .i64 bs, .int .i64 bs, .int .i64 ms, .bool false, .int .i64 0] 23 (0, 0)) := (g2.block _ (by go_size)).trans (by repeat' (first | (with_reducible assumption) | (with_reducible exact heap_alloc_new _ _) | (with_reducible exact (two_allocs _ _ _).2.1) | (with_reducible apply set6_new; with_reducible assumption) | (with_reducible refine (heap_alloc_old _ _ ?_).trans ?_) | (with_reducible refine (set6_old ?_).trans ?_) | go_size))
  have B := chain (W := W) (by go_grown) g2
  have sB := B.size
  clear g2
  clear rc
  have ltc := lt_of_block rc2
  obtain ⟨bc0, bc1, bc2, bc3, bc4, bc5, bfc⟩ := block_cells rc2
  have bfc0 := bfc 0
  have bfc1 := bfc 1
  have bfc2 := bfc 2
  have bfc3 := bfc 3
  have bfc4 := bfc 4
  have bfc5 := bfc 5
  clear bfc
  have ltx := lt_of_block rx
  obtain ⟨bx0, bx1, bx2, bx3, bx4, bx5, bfx⟩ := block_cells rx
  have bfx0 := bfx 0
  have bfx1 := bfx 1
  have bfx2 := bfx 2
  have bfx3 := bfx 3
  have bfx4 := bfx 4
  have bfx5 := bfx 5
  clear bfx
  have ltv := lt_of_block rv
  obtain ⟨bv0, bv1, bv2, bv3, bv4, bv5, bfv⟩ := block_cells rv
  have bfv0 := bfv 0
  have bfv1 := bfv 1
  have bfv2 := bfv 2
  have bfv3 := bfv 3
  have bfv4 := bfv 4
  have bfv5 := bfv 5
  clear bfv
  go_wp2_with fail
  refine (M2 _).mono ?_
  rintro e w3 ⟨rfl, g3⟩
  clear bc0 bc1 bc2 bc3 bc4 bc5 bfc0 bfc1 bfc2 bfc3 bfc4 bfc5 bx0 bx1 bx2 bx3 bx4 bx5 bfx0 bfx1 bfx2 bfx3 bfx4 bfx5 bv0 bv1 bv2 bv3 bv4 bv5 bfv0 bfv1 bfv2 bfv3 bfv4 bfv5
  have sw3 := g3.size
  try simp only [World.size_alloc, World.size_setCell, World.size_drew] at sw3
  have rc3 : w3.heap[W.heap.size]? = some (.cells #[.int .i64 n, .int .i64 wt, .int .i64 b, .int .i64 cp, .bool o, .int .i64 d] 23 (0, 0)) := (g3.block _ (by go_size)).trans (by repeat' (first | (with_reducible assumption) | (with_reducible exact heap_alloc_new _ _) | (with_reducible exact (two_allocs _ _ _).2.1) | (with_reducible apply set6_new; with_reducible assumption) | (with_reducible refine (heap_alloc_old _ _ ?_).trans ?_) | (with_reducible refine (set6_old ?_).trans ?_) | go_size))
  have B := chain (W := W) (by go_grown) g3
  have sB := B.size
  clear g3
  clear rc2 rx rv
  have ltc := lt_of_block rc3
  obtain ⟨bc0, bc1, bc2, bc3, bc4, bc5, bfc⟩ := block_cells rc3
  have bfc0 := bfc 0
  have bfc1 := bfc 1
  have bfc2 := bfc 2
  have bfc3 := bfc 3
  have bfc4 := bfc 4
  have bfc5 := bfc 5
  clear bfc
  go_wp2_with fail
  clear bc0 bc1 bc2 bc3 bc4 bc5 bfc0 bfc1 bfc2 bfc3 bfc4 bfc5
  refine g_start (by kernel_rfl) ?_
  refine g_take (i := 0) (d := (some 42)) (v := ?_) rfl rfl (by kernel_rfl) (fun _ _ _ h => h) (by rfl) (fun w' hb' => ?_) ?_
  rotate_left
  · have z : w'.heap[W.heap.size]? = some (.cells #[.int .i64 n, .int .i64 wt, .int .i64 b, .int .i64 cp, .bool o, .int .i64 d] 23 (0, 0)) := (hb'.block _ (by go_size)).trans (rc3); obtain ⟨z0, z1, z2, z3, z4, z5, zf⟩ := block_cells z; (try go_simp); (try with_reducible rfl)
  try simp only [Act.put, List.setIfInBounds_toArray, List.set_cons_zero, List.set_cons_succ]
  refine g_take (i := 2) (d := (some 44)) (v := ?_) rfl rfl (by kernel_rfl) (fun _ _ _ h => h) (by rfl) (fun w' hb' => ?_) ?_
  rotate_left
  · have z : w'.heap[W.heap.size]? = some (.cells #[.int .i64 n, .int .i64 wt, .int .i64 b, .int .i64 cp, .bool o, .int .i64 d] 23 (0, 0)) := (hb'.block _ (by go_size)).trans (rc3); obtain ⟨z0, z1, z2, z3, z4, z5, zf⟩ := block_cells z; (try go_simp); (try with_reducible rfl)
  try simp only [Act.put, List.setIfInBounds_toArray, List.set_cons_zero, List.set_cons_succ]
  refine g_run (i := 1) rfl (by kernel_rfl) (by rfl) (fun K hK => ?_)
  go_simp; refine (M3 _).mono ?_; rintro e w5 ⟨rfl, g⟩; refine hK _ _ ⟨g, ?_⟩; have B := chain (W := W) (by go_grown) g; have sB := B.size; have rc5 := (g.block _ (lt_of_block (w := w3.drew) rc3)).trans rc3; clear hK K g rc3
  try simp only [Act.put, List.setIfInBounds_toArray, List.set_cons_zero, List.set_cons_succ]
  refine g_run (i := 3) rfl (by kernel_rfl) (by rfl) (fun K hK => ?_)
  go_simp; refine (M2 _).mono ?_; rintro e w6 ⟨rfl, g⟩; refine hK _ _ ⟨g, ?_⟩; have B := chain (W := W) (by go_grown) g; have sB := B.size; have rc6 := (g.block _ (lt_of_block (w := w5) rc5)).trans rc5; clear hK K g rc5
  try simp only [Act.put, List.setIfInBounds_toArray, List.set_cons_zero, List.set_cons_succ]
  refine g_take (i := 4) (d := (some 46)) (v := ?_) rfl rfl (by kernel_rfl) (fun _ _ _ h => h) (by rfl) (fun w' hb' => ?_) ?_
  rotate_left
  · (try go_simp); (try with_reducible rfl)
  try simp only [Act.put, List.setIfInBounds_toArray, List.set_cons_zero, List.set_cons_succ]
  refine g_take (i := 5) (d := (some 47)) (v := ?_) rfl rfl (by kernel_rfl) (fun _ _ _ h => h) (by rfl) (fun w' hb' => ?_) ?_
  rotate_left
  · (try go_simp); (try with_reducible rfl)
  try simp only [Act.put, List.setIfInBounds_toArray, List.set_cons_zero, List.set_cons_succ]
  refine g_take (i := 6) (d := (some 48)) (v := ?_) rfl rfl (by kernel_rfl) (fun _ _ _ h => h) (by rfl) (fun w' hb' => ?_) ?_
  rotate_left
  · have z : w'.heap[W.heap.size]? = some (.cells #[.int .i64 n, .int .i64 wt, .int .i64 b, .int .i64 cp, .bool o, .int .i64 d] 23 (0, 0)) := (hb'.block _ (lt_of_block rc6)).trans (rc6); obtain ⟨z0, z1, z2, z3, z4, z5, zf⟩ := block_cells z; (try go_simp); (try with_reducible rfl)
  try simp only [Act.put, List.setIfInBounds_toArray, List.set_cons_zero, List.set_cons_succ]
  refine g_take (i := 8) (d := (some 50)) (v := ?_) rfl rfl (by kernel_rfl) (fun _ _ _ h => h) (by rfl) (fun w' hb' => ?_) ?_
  rotate_left
  · (try go_simp); (try with_reducible rfl)
  try simp only [Act.put, List.setIfInBounds_toArray, List.set_cons_zero, List.set_cons_succ]
  refine g_run (i := 7) rfl (by kernel_rfl) (by rfl) (fun K hK => ?_)
  go_simp; refine (L1 _).mono ?_; rintro e w7 ⟨rfl, g⟩; refine hK _ _ ⟨g, ?_⟩; have B := chain (W := W) (by go_grown) g; have sB := B.size; clear hK K g
  try simp only [Act.put, List.setIfInBounds_toArray, List.set_cons_zero, List.set_cons_succ]
  refine g_take (i := 9) (d := (some 51)) (v := ?_) rfl rfl (by kernel_rfl) (fun _ _ _ h => h) (by rfl) (fun w' hb' => ?_) ?_
  rotate_left
  · (try go_simp); (try with_reducible rfl)
  try simp only [Act.put, List.setIfInBounds_toArray, List.set_cons_zero, List.set_cons_succ]
  refine g_take (i := 10) (d := (some 52)) (v := ?_) rfl rfl (by kernel_rfl) (fun _ _ _ h => h) (by rfl) (fun w' hb' => ?_) ?_
  rotate_left
  · (try go_simp); (try with_reducible rfl)
  try simp only [Act.put, List.setIfInBounds_toArray, List.set_cons_zero, List.set_cons_succ]
  refine g_take (i := 11) (d := (some 53)) (v := ?_) rfl rfl (by kernel_rfl) (fun _ _ _ h => h) (by rfl) (fun w' hb' => ?_) ?_
  rotate_left
  · (try go_simp); (try with_reducible rfl)
  try simp only [Act.put, List.setIfInBounds_toArray, List.set_cons_zero, List.set_cons_succ]
  refine g_run (i := 12) rfl (by kernel_rfl) (by rfl) (fun K hK => ?_)
  go_simp; refine (awake_any _).mono ?_; rintro e w8 ⟨rfl, g⟩; refine hK _ _ ⟨g, ?_⟩; have B := chain (W := W) (by go_grown) g; have sB := B.size; clear hK K g
  try simp only [Act.put, List.setIfInBounds_toArray, List.set_cons_zero, List.set_cons_succ]
  refine g_take (i := 13) (d := (some 55)) (v := ?_) rfl rfl (by kernel_rfl) (fun _ _ _ h => h) (by rfl) (fun w' hb' => ?_) ?_
  rotate_left
  · (try go_simp); (try with_reducible rfl)
  try simp only [Act.put, List.setIfInBounds_toArray, List.set_cons_zero, List.set_cons_succ]
  refine g_take (i := 14) (d := (some 6)) (v := ?_) rfl rfl (by kernel_rfl) (fun _ _ _ h => h) (by rfl) (fun w' hb' => ?_) ?_
  rotate_left
  · (try go_simp); (try with_reducible rfl)
  try simp only [Act.put, List.setIfInBounds_toArray, List.set_cons_zero, List.set_cons_succ]
  refine g_done (by kernel_rfl) ?_
  go_wp2
  go_ret
  exact ⟨rfl, B⟩
set_option maxRecDepth 100000 in
set_option maxHeartbeats 1000000 in
theorem news_false_true (bs ms n wt b cp d lf : Int) (o : Bool) (W : World)
    (N : (∀ w, Calls Try.prog 8 #[.int .i64 bs, .int .i64 ms] w fun e w' => e = .returned (.tuple #[.agg #[.int .i64 0, .int .i64 0, .int .i64 0, .int .i64 0, .bool false, .int .i64 0], .int .i64 1]) ∧ Below w.heap.size w w'))
    (M1 : (∀ w, Calls Try.prog 9 #[.agg #[.int .i64 0, .int .i64 bs, .int .i64 bs, .int .i64 ms, .bool false, .int .i64 0]] w fun e w' => e = .returned (.bool false) ∧ Below w.heap.size w w'))
    (M2 : (∀ w, Calls Try.prog 9 #[.agg #[.int .i64 n, .int .i64 wt, .int .i64 b, .int .i64 cp, .bool o, .int .i64 d]] w fun e w' => e = .returned (.bool true) ∧ Below w.heap.size w w'))
    (M3 : (∀ w, Calls Try.prog 11 #[.agg #[.int .i64 n, .int .i64 wt, .int .i64 b, .int .i64 cp, .bool o, .int .i64 d]] w fun e w' => e = .returned (.bool true) ∧ Below w.heap.size w w'))
    (L1 : (∀ w, Calls Try.prog 12 #[.agg #[.int .i64 n, .int .i64 wt, .int .i64 b, .int .i64 cp, .bool o, .int .i64 d]] w fun e w' => e = .returned (.int .i64 lf) ∧ Below w.heap.size w w'))
    (L2 : (∀ w, Calls Try.prog 10 #[.agg #[.int .i64 n, .int .i64 wt, .int .i64 b, .int .i64 cp, .bool o, .int .i64 d]] w fun e w' => e = .returned (.int .i64 lf) ∧ Below w.heap.size w w'))
    : Calls Try.prog 3 #[.int .i64 bs, .int .i64 ms, .agg #[.int .i64 n, .int .i64 wt, .int .i64 b, .int .i64 cp, .bool o, .int .i64 d]] W fun e w' => e = .returned (.bool true) ∧ Below W.heap.size W w' := by
  go_enter Try.func3, Try.ntmps3
  go_wp2_with fail
  refine (N _).mono ?_
  rintro e w1 ⟨rfl, g1⟩
  have sw1 := g1.size
  try simp only [World.size_alloc, World.size_setCell, World.size_drew] at sw1
  have rc : w1.heap[W.heap.size]? = some (.cells #[.int .i64 n, .int .i64 wt, .int .i64 b, .int .i64 cp, .bool o, .int .i64 d] 23 (0, 0)) := (g1.block _ (by go_size)).trans (by repeat' (first | (with_reducible assumption) | (with_reducible exact heap_alloc_new _ _) | (with_reducible exact (two_allocs _ _ _).2.1) | (with_reducible apply set6_new; with_reducible assumption) | (with_reducible refine (heap_alloc_old _ _ ?_).trans ?_) | (with_reducible refine (set6_old ?_).trans ?_) | go_size))
  have B := chain (W := W) (by go_grown) g1
  have sB := B.size
  clear g1
  have ltc := lt_of_block rc
  obtain ⟨bc0, bc1, bc2, bc3, bc4, bc5, bfc⟩ := block_cells rc
  have bfc0 := bfc 0
  have bfc1 := bfc 1
  have bfc2 := bfc 2
  have bfc3 := bfc 3
  have bfc4 := bfc 4
  have bfc5 := bfc 5
  clear bfc
  go_wp2_with fail
  refine (M1 _).mono ?_
  rintro e w2 ⟨rfl, g2⟩
  clear bc0 bc1 bc2 bc3 bc4 bc5 bfc0 bfc1 bfc2 bfc3 bfc4 bfc5
  have sw2 := g2.size
  try simp only [World.size_alloc, World.size_setCell, World.size_drew] at sw2
  have rc2 : w2.heap[W.heap.size]? = some (.cells #[.int .i64 n, .int .i64 wt, .int .i64 b, .int .i64 cp, .bool o, .int .i64 d] 23 (0, 0)) := (g2.block _ (by go_size)).trans (by repeat' (first | (with_reducible assumption) | (with_reducible exact heap_alloc_new _ _) | (with_reducible exact (two_allocs _ _ _).2.1) | (with_reducible apply set6_new; with_reducible assumption) | (with_reducible refine (heap_alloc_old _ _ ?_).trans ?_) | (with_reducible refine (set6_old ?_).trans ?_) | go_size))
  have rx : w2.heap[w1.heap.size]? = some (.cells #[.int .i64 0, .int .i64 0, .int .i64 0, .int .i64 0, .bool false, .int .i64 0] 23 (0, 0)) := (g2.block _ (by go_size)).trans (by repeat' (first | (with_reducible assumption) | (with_reducible exact heap_alloc_new _ _) | (with_reducible exact (two_allocs _ _ _).2.1) | (with_reducible apply set6_new; with_reducible assumption) | (with_reducible refine (heap_alloc_old _ _ ?_).trans ?_) | (with_reducible refine (set6_old ?_).trans ?_) | go_size))
  have rv : w2.heap[(w1.heap.size + 1)]? = some (.cells #[.int .i64 0, .int .i64 bs, .int .i64 bs, .int .i64 ms, .bool false, .int .i64 0] 23 (0, 0)) := (g2.block _ (by go_size)).trans (by repeat' (first | (with_reducible assumption) | (with_reducible exact heap_alloc_new _ _) | (with_reducible exact (two_allocs _ _ _).2.1) | (with_reducible apply set6_new; with_reducible assumption) | (with_reducible refine (heap_alloc_old _ _ ?_).trans ?_) | (with_reducible refine (set6_old ?_).trans ?_) | go_size))
  have B := chain (W := W) (by go_grown) g2
  have sB := B.size
  clear g2
  clear rc
  have ltc := lt_of_block rc2
  obtain ⟨bc0, bc1, bc2, bc3, bc4, bc5, bfc⟩ := block_cells rc2
  have bfc0 := bfc 0
  have bfc1 := bfc 1
  have bfc2 := bfc 2
  have bfc3 := bfc 3
  have bfc4 := bfc 4
  have bfc5 := bfc 5
  clear bfc
  have ltx := lt_of_block rx
  obtain ⟨bx0, bx1, bx2, bx3, bx4, bx5, bfx⟩ := block_cells rx
  have bfx0 := bfx 0
  have bfx1 := bfx 1
  have bfx2 := bfx 2
  have bfx3 := bfx 3
  have bfx4 := bfx 4
  have bfx5 := bfx 5
  clear bfx
  have ltv := lt_of_block rv
  obtain ⟨bv0, bv1, bv2, bv3, bv4, bv5, bfv⟩ := block_cells rv
  have bfv0 := bfv 0
  have bfv1 := bfv 1
  have bfv2 := bfv 2
  have bfv3 := bfv 3
  have bfv4 := bfv 4
  have bfv5 := bfv 5
  clear bfv
  go_wp2_with fail
  refine (M2 _).mono ?_
  rintro e w3 ⟨rfl, g3⟩
  clear bc0 bc1 bc2 bc3 bc4 bc5 bfc0 bfc1 bfc2 bfc3 bfc4 bfc5 bx0 bx1 bx2 bx3 bx4 bx5 bfx0 bfx1 bfx2 bfx3 bfx4 bfx5 bv0 bv1 bv2 bv3 bv4 bv5 bfv0 bfv1 bfv2 bfv3 bfv4 bfv5
  have sw3 := g3.size
  try simp only [World.size_alloc, World.size_setCell, World.size_drew] at sw3
  have rc3 : w3.heap[W.heap.size]? = some (.cells #[.int .i64 n, .int .i64 wt, .int .i64 b, .int .i64 cp, .bool o, .int .i64 d] 23 (0, 0)) := (g3.block _ (by go_size)).trans (by repeat' (first | (with_reducible assumption) | (with_reducible exact heap_alloc_new _ _) | (with_reducible exact (two_allocs _ _ _).2.1) | (with_reducible apply set6_new; with_reducible assumption) | (with_reducible refine (heap_alloc_old _ _ ?_).trans ?_) | (with_reducible refine (set6_old ?_).trans ?_) | go_size))
  have B := chain (W := W) (by go_grown) g3
  have sB := B.size
  clear g3
  clear rc2 rx rv
  have ltc := lt_of_block rc3
  obtain ⟨bc0, bc1, bc2, bc3, bc4, bc5, bfc⟩ := block_cells rc3
  have bfc0 := bfc 0
  have bfc1 := bfc 1
  have bfc2 := bfc 2
  have bfc3 := bfc 3
  have bfc4 := bfc 4
  have bfc5 := bfc 5
  clear bfc
  go_wp2_with fail
  refine (L2 _).mono ?_
  rintro e w4 ⟨rfl, g4⟩
  clear bc0 bc1 bc2 bc3 bc4 bc5 bfc0 bfc1 bfc2 bfc3 bfc4 bfc5
  have sw4 := g4.size
  try simp only [World.size_alloc, World.size_setCell, World.size_drew] at sw4
  have rc4 : w4.heap[W.heap.size]? = some (.cells #[.int .i64 n, .int .i64 wt, .int .i64 b, .int .i64 cp, .bool o, .int .i64 d] 23 (0, 0)) := (g4.block _ (by go_size)).trans (by repeat' (first | (with_reducible assumption) | (with_reducible exact heap_alloc_new _ _) | (with_reducible exact (two_allocs _ _ _).2.1) | (with_reducible apply set6_new; with_reducible assumption) | (with_reducible refine (heap_alloc_old _ _ ?_).trans ?_) | (with_reducible refine (set6_old ?_).trans ?_) | go_size))
  have B := chain (W := W) (by go_grown) g4
  have sB := B.size
  clear g4
  clear rc3
  have ltc := lt_of_block rc4
  obtain ⟨bc0, bc1, bc2, bc3, bc4, bc5, bfc⟩ := block_cells rc4
  have bfc0 := bfc 0
  have bfc1 := bfc 1
  have bfc2 := bfc 2
  have bfc3 := bfc 3
  have bfc4 := bfc 4
  have bfc5 := bfc 5
  clear bfc
  go_wp2_with fail
  clear bc0 bc1 bc2 bc3 bc4 bc5 bfc0 bfc1 bfc2 bfc3 bfc4 bfc5
  refine g_start (by kernel_rfl) ?_
  refine g_take (i := 0) (d := (some 42)) (v := ?_) rfl rfl (by kernel_rfl) (fun _ _ _ h => h) (by rfl) (fun w' hb' => ?_) ?_
  rotate_left
  · have z : w'.heap[W.heap.size]? = some (.cells #[.int .i64 n, .int .i64 wt, .int .i64 b, .int .i64 cp, .bool o, .int .i64 d] 23 (0, 0)) := (hb'.block _ (by go_size)).trans (rc4); obtain ⟨z0, z1, z2, z3, z4, z5, zf⟩ := block_cells z; (try go_simp); (try with_reducible rfl)
  try simp only [Act.put, List.setIfInBounds_toArray, List.set_cons_zero, List.set_cons_succ]
  refine g_take (i := 2) (d := (some 44)) (v := ?_) rfl rfl (by kernel_rfl) (fun _ _ _ h => h) (by rfl) (fun w' hb' => ?_) ?_
  rotate_left
  · have z : w'.heap[W.heap.size]? = some (.cells #[.int .i64 n, .int .i64 wt, .int .i64 b, .int .i64 cp, .bool o, .int .i64 d] 23 (0, 0)) := (hb'.block _ (by go_size)).trans (rc4); obtain ⟨z0, z1, z2, z3, z4, z5, zf⟩ := block_cells z; (try go_simp); (try with_reducible rfl)
  try simp only [Act.put, List.setIfInBounds_toArray, List.set_cons_zero, List.set_cons_succ]
  refine g_run (i := 1) rfl (by kernel_rfl) (by rfl) (fun K hK => ?_)
  go_simp; refine (M3 _).mono ?_; rintro e w5 ⟨rfl, g⟩; refine hK _ _ ⟨g, ?_⟩; have B := chain (W := W) (by go_grown) g; have sB := B.size; have rc5 := (g.block _ (lt_of_block (w := w4.drew) rc4)).trans rc4; clear hK K g rc4
  try simp only [Act.put, List.setIfInBounds_toArray, List.set_cons_zero, List.set_cons_succ]
  refine g_run (i := 3) rfl (by kernel_rfl) (by rfl) (fun K hK => ?_)
  go_simp; refine (M2 _).mono ?_; rintro e w6 ⟨rfl, g⟩; refine hK _ _ ⟨g, ?_⟩; have B := chain (W := W) (by go_grown) g; have sB := B.size; have rc6 := (g.block _ (lt_of_block (w := w5) rc5)).trans rc5; clear hK K g rc5
  try simp only [Act.put, List.setIfInBounds_toArray, List.set_cons_zero, List.set_cons_succ]
  refine g_take (i := 4) (d := (some 46)) (v := ?_) rfl rfl (by kernel_rfl) (fun _ _ _ h => h) (by rfl) (fun w' hb' => ?_) ?_
  rotate_left
  · (try go_simp); (try with_reducible rfl)
  try simp only [Act.put, List.setIfInBounds_toArray, List.set_cons_zero, List.set_cons_succ]
  refine g_take (i := 5) (d := (some 47)) (v := ?_) rfl rfl (by kernel_rfl) (fun _ _ _ h => h) (by rfl) (fun w' hb' => ?_) ?_
  rotate_left
  · (try go_simp); (try with_reducible rfl)
  try simp only [Act.put, List.setIfInBounds_toArray, List.set_cons_zero, List.set_cons_succ]
  refine g_take (i := 6) (d := (some 48)) (v := ?_) rfl rfl (by kernel_rfl) (fun _ _ _ h => h) (by rfl) (fun w' hb' => ?_) ?_
  rotate_left
  · have z : w'.heap[W.heap.size]? = some (.cells #[.int .i64 n, .int .i64 wt, .int .i64 b, .int .i64 cp, .bool o, .int .i64 d] 23 (0, 0)) := (hb'.block _ (lt_of_block rc6)).trans (rc6); obtain ⟨z0, z1, z2, z3, z4, z5, zf⟩ := block_cells z; (try go_simp); (try with_reducible rfl)
  try simp only [Act.put, List.setIfInBounds_toArray, List.set_cons_zero, List.set_cons_succ]
  refine g_take (i := 8) (d := (some 50)) (v := ?_) rfl rfl (by kernel_rfl) (fun _ _ _ h => h) (by rfl) (fun w' hb' => ?_) ?_
  rotate_left
  · (try go_simp); (try with_reducible rfl)
  try simp only [Act.put, List.setIfInBounds_toArray, List.set_cons_zero, List.set_cons_succ]
  refine g_run (i := 7) rfl (by kernel_rfl) (by rfl) (fun K hK => ?_)
  go_simp; refine (L1 _).mono ?_; rintro e w7 ⟨rfl, g⟩; refine hK _ _ ⟨g, ?_⟩; have B := chain (W := W) (by go_grown) g; have sB := B.size; clear hK K g
  try simp only [Act.put, List.setIfInBounds_toArray, List.set_cons_zero, List.set_cons_succ]
  refine g_take (i := 9) (d := (some 51)) (v := ?_) rfl rfl (by kernel_rfl) (fun _ _ _ h => h) (by rfl) (fun w' hb' => ?_) ?_
  rotate_left
  · (try go_simp); (try with_reducible rfl)
  try simp only [Act.put, List.setIfInBounds_toArray, List.set_cons_zero, List.set_cons_succ]
  refine g_take (i := 10) (d := (some 52)) (v := ?_) rfl rfl (by kernel_rfl) (fun _ _ _ h => h) (by rfl) (fun w' hb' => ?_) ?_
  rotate_left
  · (try go_simp); (try with_reducible rfl)
  try simp only [Act.put, List.setIfInBounds_toArray, List.set_cons_zero, List.set_cons_succ]
  refine g_take (i := 11) (d := (some 53)) (v := ?_) rfl rfl (by kernel_rfl) (fun _ _ _ h => h) (by rfl) (fun w' hb' => ?_) ?_
  rotate_left
  · (try go_simp); (try with_reducible rfl)
  try simp only [Act.put, List.setIfInBounds_toArray, List.set_cons_zero, List.set_cons_succ]
  refine g_run (i := 12) rfl (by kernel_rfl) (by rfl) (fun K hK => ?_)
  go_simp; refine (awake_any _).mono ?_; rintro e w8 ⟨rfl, g⟩; refine hK _ _ ⟨g, ?_⟩; have B := chain (W := W) (by go_grown) g; have sB := B.size; clear hK K g
  try simp only [Act.put, List.setIfInBounds_toArray, List.set_cons_zero, List.set_cons_succ]
  refine g_take (i := 13) (d := (some 55)) (v := ?_) rfl rfl (by kernel_rfl) (fun _ _ _ h => h) (by rfl) (fun w' hb' => ?_) ?_
  rotate_left
  · (try go_simp); (try with_reducible rfl)
  try simp only [Act.put, List.setIfInBounds_toArray, List.set_cons_zero, List.set_cons_succ]
  refine g_take (i := 14) (d := (some 6)) (v := ?_) rfl rfl (by kernel_rfl) (fun _ _ _ h => h) (by rfl) (fun w' hb' => ?_) ?_
  rotate_left
  · (try go_simp); (try with_reducible rfl)
  try simp only [Act.put, List.setIfInBounds_toArray, List.set_cons_zero, List.set_cons_succ]
  refine g_done (by kernel_rfl) ?_
  go_wp2
  go_ret
  exact ⟨rfl, B⟩
set_option maxRecDepth 100000 in
set_option maxHeartbeats 1000000 in
theorem news_false_false (bs ms n wt b cp d : Int) (o : Bool) (W : World)
    (N : (∀ w, Calls Try.prog 8 #[.int .i64 bs, .int .i64 ms] w fun e w' => e = .returned (.tuple #[.agg #[.int .i64 0, .int .i64 0, .int .i64 0, .int .i64 0, .bool false, .int .i64 0], .int .i64 1]) ∧ Below w.heap.size w w'))
    (M1 : (∀ w, Calls Try.prog 9 #[.agg #[.int .i64 0, .int .i64 bs, .int .i64 bs, .int .i64 ms, .bool false, .int .i64 0]] w fun e w' => e = .returned (.bool false) ∧ Below w.heap.size w w'))
    (M2 : (∀ w, Calls Try.prog 9 #[.agg #[.int .i64 n, .int .i64 wt, .int .i64 b, .int .i64 cp, .bool o, .int .i64 d]] w fun e w' => e = .returned (.bool false) ∧ Below w.heap.size w w'))
    (M3 : (∀ w, Calls Try.prog 11 #[.agg #[.int .i64 n, .int .i64 wt, .int .i64 b, .int .i64 cp, .bool o, .int .i64 d]] w fun e w' => e = .returned (.bool false) ∧ Below w.heap.size w w'))
    (L1 : (∀ w, Calls Try.prog 12 #[.agg #[.int .i64 n, .int .i64 wt, .int .i64 b, .int .i64 cp, .bool o, .int .i64 d]] w fun e w' => e = .returned (.int .i64 0) ∧ Below w.heap.size w w'))
    : Calls Try.prog 3 #[.int .i64 bs, .int .i64 ms, .agg #[.int .i64 n, .int .i64 wt, .int .i64 b, .int .i64 cp, .bool o, .int .i64 d]] W fun e w' => e = .returned (.bool true) ∧ Below W.heap.size W w' := by
  go_enter Try.func3, Try.ntmps3
  go_wp2_with fail
  refine (N _).mono ?_
  rintro e w1 ⟨rfl, g1⟩
  have sw1 := g1.size
  try simp only [World.size_alloc, World.size_setCell, World.size_drew] at sw1
  have rc : w1.heap[W.heap.size]? = some (.cells #[.int .i64 n, .int .i64 wt, .int .i64 b, .int .i64 cp, .bool o, .int .i64 d] 23 (0, 0)) := (g1.block _ (by go_size)).trans (by repeat' (first | (with_reducible assumption) | (with_reducible exact heap_alloc_new _ _) | (with_reducible exact (two_allocs _ _ _).2.1) | (with_reducible apply set6_new; with_reducible assumption) | (with_reducible refine (heap_alloc_old _ _ ?_).trans ?_) | (with_reducible refine (set6_old ?_).trans ?_) | go_size))
  have B := chain (W := W) (by go_grown) g1
  have sB := B.size
  clear g1
  have ltc := lt_of_block rc
  obtain ⟨bc0, bc1, bc2, bc3, bc4, bc5, bfc⟩ := block_cells rc
  have bfc0 := bfc 0
  have bfc1 := bfc 1
  have bfc2 := bfc 2
  have bfc3 := bfc 3
  have bfc4 := bfc 4
  have bfc5 := bfc 5
  clear bfc
  go_wp2_with fail
  refine (M1 _).mono ?_
  rintro e w2 ⟨rfl, g2⟩
  clear bc0 bc1 bc2 bc3 bc4 bc5 bfc0 bfc1 bfc2 bfc3 bfc4 bfc5
  have sw2 := g2.size
  try simp only [World.size_alloc, World.size_setCell, World.size_drew] at sw2
  have rc2 : w2.heap[W.heap.size]? = some (.cells #[.int .i64 n, .int .i64 wt, .int .i64 b, .int .i64 cp, .bool o, .int .i64 d] 23 (0, 0)) := (g2.block _ (by go_size)).trans (by repeat' (first | (with_reducible assumption) | (with_reducible exact heap_alloc_new _ _) | (with_reducible exact (two_allocs _ _ _).2.1) | (with_reducible apply set6_new; with_reducible assumption) | (with_reducible refine (heap_alloc_old _ _ ?_).trans ?_) | (with_reducible refine (set6_old ?_).trans ?_) | go_size))
  have rx : w2.heap[w1.heap.size]? = some (.cells #[.int .i64 0, .int .i64 0, .int .i64 0, .int .i64 0, .bool false, .int .i64 0] 23 (0, 0)) := (g2.block _ (by go_size)).trans (by repeat' (first | (with_reducible assumption) | (with_reducible exact heap_alloc_new _ _) | (with_reducible exact (two_allocs _ _ _).2.1) | (with_reducible apply set6_new; with_reducible assumption) | (with_reducible refine (heap_alloc_old _ _ ?_).trans ?_) | (with_reducible refine (set6_old ?_).trans ?_) | go_size))
  have rv : w2.heap[(w1.heap.size + 1)]? = some (.cells #[.int .i64 0, .int .i64 bs, .int .i64 bs, .int .i64 ms, .bool false, .int .i64 0] 23 (0, 0)) := (g2.block _ (by go_size)).trans (by repeat' (first | (with_reducible assumption) | (with_reducible exact heap_alloc_new _ _) | (with_reducible exact (two_allocs _ _ _).2.1) | (with_reducible apply set6_new; with_reducible assumption) | (with_reducible refine (heap_alloc_old _ _ ?_).trans ?_) | (with_reducible refine (set6_old ?_).trans ?_) | go_size))
  have B := chain (W := W) (by go_grown) g2
  have sB := B.size
  clear g2
  clear rc
  have ltc := lt_of_block rc2
  obtain ⟨bc0, bc1, bc2, bc3, bc4, bc5, bfc⟩ := block_cells rc2
  have bfc0 := bfc 0
  have bfc1 := bfc 1
  have bfc2 := bfc 2
  have bfc3 := bfc 3
  have bfc4 := bfc 4
  have bfc5 := bfc 5
  clear bfc
  have ltx := lt_of_block rx
  obtain ⟨bx0, bx1, bx2, bx3, bx4, bx5, bfx⟩ := block_cells rx
  have bfx0 := bfx 0
  have bfx1 := bfx 1
  have bfx2 := bfx 2
  have bfx3 := bfx 3
  have bfx4 := bfx 4
  have bfx5 := bfx 5
  clear bfx
  have ltv := lt_of_block rv
  obtain ⟨bv0, bv1, bv2, bv3, bv4, bv5, bfv⟩ := block_cells rv
  have bfv0 := bfv 0
  have bfv1 := bfv 1
  have bfv2 := bfv 2
  have bfv3 := bfv 3
  have bfv4 := bfv 4
  have bfv5 := bfv 5
  clear bfv
  go_wp2_with fail
  refine (M2 _).mono ?_
  rintro e w3 ⟨rfl, g3⟩
  clear bc0 bc1 bc2 bc3 bc4 bc5 bfc0 bfc1 bfc2 bfc3 bfc4 bfc5 bx0 bx1 bx2 bx3 bx4 bx5 bfx0 bfx1 bfx2 bfx3 bfx4 bfx5 bv0 bv1 bv2 bv3 bv4 bv5 bfv0 bfv1 bfv2 bfv3 bfv4 bfv5
  have sw3 := g3.size
  try simp only [World.size_alloc, World.size_setCell, World.size_drew] at sw3
  have rc3 : w3.heap[W.heap.size]? = some (.cells #[.int .i64 n, .int .i64 wt, .int .i64 b, .int .i64 cp, .bool o, .int .i64 d] 23 (0, 0)) := (g3.block _ (by go_size)).trans (by repeat' (first | (with_reducible assumption) | (with_reducible exact heap_alloc_new _ _) | (with_reducible exact (two_allocs _ _ _).2.1) | (with_reducible apply set6_new; with_reducible assumption) | (with_reducible refine (heap_alloc_old _ _ ?_).trans ?_) | (with_reducible refine (set6_old ?_).trans ?_) | go_size))
  have B := chain (W := W) (by go_grown) g3
  have sB := B.size
  clear g3
  clear rc2 rx rv
  have ltc := lt_of_block rc3
  obtain ⟨bc0, bc1, bc2, bc3, bc4, bc5, bfc⟩ := block_cells rc3
  have bfc0 := bfc 0
  have bfc1 := bfc 1
  have bfc2 := bfc 2
  have bfc3 := bfc 3
  have bfc4 := bfc 4
  have bfc5 := bfc 5
  clear bfc
  go_wp2_with fail
  clear bc0 bc1 bc2 bc3 bc4 bc5 bfc0 bfc1 bfc2 bfc3 bfc4 bfc5
  refine g_start (by kernel_rfl) ?_
  refine g_take (i := 0) (d := (some 42)) (v := ?_) rfl rfl (by kernel_rfl) (fun _ _ _ h => h) (by rfl) (fun w' hb' => ?_) ?_
  rotate_left
  · have z : w'.heap[W.heap.size]? = some (.cells #[.int .i64 n, .int .i64 wt, .int .i64 b, .int .i64 cp, .bool o, .int .i64 d] 23 (0, 0)) := (hb'.block _ (by go_size)).trans (rc3); obtain ⟨z0, z1, z2, z3, z4, z5, zf⟩ := block_cells z; (try go_simp); (try with_reducible rfl)
  try simp only [Act.put, List.setIfInBounds_toArray, List.set_cons_zero, List.set_cons_succ]
  refine g_take (i := 2) (d := (some 44)) (v := ?_) rfl rfl (by kernel_rfl) (fun _ _ _ h => h) (by rfl) (fun w' hb' => ?_) ?_
  rotate_left
  · have z : w'.heap[W.heap.size]? = some (.cells #[.int .i64 n, .int .i64 wt, .int .i64 b, .int .i64 cp, .bool o, .int .i64 d] 23 (0, 0)) := (hb'.block _ (by go_size)).trans (rc3); obtain ⟨z0, z1, z2, z3, z4, z5, zf⟩ := block_cells z; (try go_simp); (try with_reducible rfl)
  try simp only [Act.put, List.setIfInBounds_toArray, List.set_cons_zero, List.set_cons_succ]
  refine g_run (i := 1) rfl (by kernel_rfl) (by rfl) (fun K hK => ?_)
  go_simp; refine (M3 _).mono ?_; rintro e w5 ⟨rfl, g⟩; refine hK _ _ ⟨g, ?_⟩; have B := chain (W := W) (by go_grown) g; have sB := B.size; have rc5 := (g.block _ (lt_of_block (w := w3.drew) rc3)).trans rc3; clear hK K g rc3
  try simp only [Act.put, List.setIfInBounds_toArray, List.set_cons_zero, List.set_cons_succ]
  refine g_run (i := 3) rfl (by kernel_rfl) (by rfl) (fun K hK => ?_)
  go_simp; refine (M2 _).mono ?_; rintro e w6 ⟨rfl, g⟩; refine hK _ _ ⟨g, ?_⟩; have B := chain (W := W) (by go_grown) g; have sB := B.size; have rc6 := (g.block _ (lt_of_block (w := w5) rc5)).trans rc5; clear hK K g rc5
  try simp only [Act.put, List.setIfInBounds_toArray, List.set_cons_zero, List.set_cons_succ]
  refine g_take (i := 4) (d := (some 46)) (v := ?_) rfl rfl (by kernel_rfl) (fun _ _ _ h => h) (by rfl) (fun w' hb' => ?_) ?_
  rotate_left
  · (try go_simp); (try with_reducible rfl)
  try simp only [Act.put, List.setIfInBounds_toArray, List.set_cons_zero, List.set_cons_succ]
  refine g_take (i := 5) (d := (some 47)) (v := ?_) rfl rfl (by kernel_rfl) (fun _ _ _ h => h) (by rfl) (fun w' hb' => ?_) ?_
  rotate_left
  · (try go_simp); (try with_reducible rfl)
  try simp only [Act.put, List.setIfInBounds_toArray, List.set_cons_zero, List.set_cons_succ]
  refine g_take (i := 6) (d := (some 48)) (v := ?_) rfl rfl (by kernel_rfl) (fun _ _ _ h => h) (by rfl) (fun w' hb' => ?_) ?_
  rotate_left
  · have z : w'.heap[W.heap.size]? = some (.cells #[.int .i64 n, .int .i64 wt, .int .i64 b, .int .i64 cp, .bool o, .int .i64 d] 23 (0, 0)) := (hb'.block _ (lt_of_block rc6)).trans (rc6); obtain ⟨z0, z1, z2, z3, z4, z5, zf⟩ := block_cells z; (try go_simp); (try with_reducible rfl)
  try simp only [Act.put, List.setIfInBounds_toArray, List.set_cons_zero, List.set_cons_succ]
  refine g_take (i := 8) (d := (some 50)) (v := ?_) rfl rfl (by kernel_rfl) (fun _ _ _ h => h) (by rfl) (fun w' hb' => ?_) ?_
  rotate_left
  · (try go_simp); (try with_reducible rfl)
  try simp only [Act.put, List.setIfInBounds_toArray, List.set_cons_zero, List.set_cons_succ]
  refine g_run (i := 7) rfl (by kernel_rfl) (by rfl) (fun K hK => ?_)
  go_simp; refine (L1 _).mono ?_; rintro e w7 ⟨rfl, g⟩; refine hK _ _ ⟨g, ?_⟩; have B := chain (W := W) (by go_grown) g; have sB := B.size; clear hK K g
  try simp only [Act.put, List.setIfInBounds_toArray, List.set_cons_zero, List.set_cons_succ]
  refine g_take (i := 9) (d := (some 51)) (v := ?_) rfl rfl (by kernel_rfl) (fun _ _ _ h => h) (by rfl) (fun w' hb' => ?_) ?_
  rotate_left
  · (try go_simp); (try with_reducible rfl)
  try simp only [Act.put, List.setIfInBounds_toArray, List.set_cons_zero, List.set_cons_succ]
  refine g_take (i := 10) (d := (some 52)) (v := ?_) rfl rfl (by kernel_rfl) (fun _ _ _ h => h) (by rfl) (fun w' hb' => ?_) ?_
  rotate_left
  · (try go_simp); (try with_reducible rfl)
  try simp only [Act.put, List.setIfInBounds_toArray, List.set_cons_zero, List.set_cons_succ]
  refine g_take (i := 11) (d := (some 53)) (v := ?_) rfl rfl (by kernel_rfl) (fun _ _ _ h => h) (by rfl) (fun w' hb' => ?_) ?_
  rotate_left
  · (try go_simp); (try with_reducible rfl)
  try simp only [Act.put, List.setIfInBounds_toArray, List.set_cons_zero, List.set_cons_succ]
  refine g_run (i := 12) rfl (by kernel_rfl) (by rfl) (fun K hK => ?_)
  go_simp; refine (awake_any _).mono ?_; rintro e w8 ⟨rfl, g⟩; refine hK _ _ ⟨g, ?_⟩; have B := chain (W := W) (by go_grown) g; have sB := B.size; clear hK K g
  try simp only [Act.put, List.setIfInBounds_toArray, List.set_cons_zero, List.set_cons_succ]
  refine g_take (i := 13) (d := (some 55)) (v := ?_) rfl rfl (by kernel_rfl) (fun _ _ _ h => h) (by rfl) (fun w' hb' => ?_) ?_
  rotate_left
  · (try go_simp); (try with_reducible rfl)
  try simp only [Act.put, List.setIfInBounds_toArray, List.set_cons_zero, List.set_cons_succ]
  refine g_take (i := 14) (d := (some 6)) (v := ?_) rfl rfl (by kernel_rfl) (fun _ _ _ h => h) (by rfl) (fun w' hb' => ?_) ?_
  rotate_left
  · (try go_simp); (try with_reducible rfl)
  try simp only [Act.put, List.setIfInBounds_toArray, List.set_cons_zero, List.set_cons_succ]
  refine g_done (by kernel_rfl) ?_
  go_wp2
  go_ret
  exact ⟨rfl, B⟩
theorem news_any (c : Ck) (bs ms : Int) (W : World) (hd : I64 c.due) : Calls Try.prog 3 #[.int .i64 bs, .int .i64 ms, ckV c] W fun e w' => e = .returned (.bool true) ∧ Below W.heap.size W w' := by
  obtain ⟨n, wt, b, cp, o, d⟩ := c
  have z : I64 (newC bs ms).due := ⟨by show (-9223372036854775808 : Int) ≤ 0; omega, by show (0 : Int) ≤ 9223372036854775807; omega⟩
  by_cases hq : MayP (newC bs ms)
  · have N := new_yes bs ms hq
    have M1 := rmay_any (newC bs ms) z
    rw [mayC_true hq] at M1
    by_cases hc : MayP ⟨n, wt, b, cp, o, d⟩
    · have M2 := rmay_any ⟨n, wt, b, cp, o, d⟩ hd
      have M3 := may_b ⟨n, wt, b, cp, o, d⟩
      rw [mayC_true hc] at M2 M3
      exact news_true_true bs ms n wt b cp d _ o W N M1 M2 M3 (left_any ⟨n, wt, b, cp, o, d⟩) (rleft_any ⟨n, wt, b, cp, o, d⟩ hc)
    · have M2 := rmay_any ⟨n, wt, b, cp, o, d⟩ hd
      have M3 := may_b ⟨n, wt, b, cp, o, d⟩
      have L1 := left_any ⟨n, wt, b, cp, o, d⟩
      have l0 : leftC ⟨n, wt, b, cp, o, d⟩ = 0 := by unfold leftC; rw [mayC_false hc]; rfl
      rw [mayC_false hc] at M2 M3
      rw [l0] at L1
      exact news_true_false bs ms n wt b cp d o W N M1 M2 M3 L1
  · have N := new_no bs ms hq
    have M1 := rmay_any (newC bs ms) z
    rw [mayC_false hq] at M1
    by_cases hc : MayP ⟨n, wt, b, cp, o, d⟩
    · have M2 := rmay_any ⟨n, wt, b, cp, o, d⟩ hd
      have M3 := may_b ⟨n, wt, b, cp, o, d⟩
      rw [mayC_true hc] at M2 M3
      exact news_false_true bs ms n wt b cp d _ o W N M1 M2 M3 (left_any ⟨n, wt, b, cp, o, d⟩) (rleft_any ⟨n, wt, b, cp, o, d⟩ hc)
    · have M2 := rmay_any ⟨n, wt, b, cp, o, d⟩ hd
      have M3 := may_b ⟨n, wt, b, cp, o, d⟩
      have L1 := left_any ⟨n, wt, b, cp, o, d⟩
      have l0 : leftC ⟨n, wt, b, cp, o, d⟩ = 0 := by unfold leftC; rw [mayC_false hc]; rfl
      rw [mayC_false hc] at M2 M3
      rw [l0] at L1
      exact news_false_false bs ms n wt b cp d o W N M1 M2 M3 L1
end Go.Proofs.Ytfodafabkmepbaa
