/- The walk of the law ClockDoes. Written by wip/tools/gen06m.py. -/
import Derived.Test.YtgopmffekhhmjaaK06l
import Derived.Test.YtgopmffekhhmjaaK06r
namespace Go.Proofs.Ytgopmffekhhmjaa
open Go.RowKit
set_option linter.unusedVariables false
set_option linter.unusedSimpArgs false
set_option maxRecDepth 100000 in
set_option maxHeartbeats 1000000 in
theorem does_no (wt b cp d n : Int) (o : Bool) (W : World)
    (S1 : (∀ w, Calls Try.prog 14 #[.agg #[.int .i64 n, .int .i64 wt, .int .i64 b, .int .i64 cp, .bool o, .int .i64 d]] w fun e w' => e = .returned (.tuple #[.agg #[.int .i64 0, .int .i64 0, .int .i64 0, .int .i64 0, .bool false, .int .i64 0], .int .i64 1]) ∧ Below w.heap.size w w'))
    (S2 : (∀ w, Calls Try.prog 15 #[.agg #[.int .i64 n, .int .i64 wt, .int .i64 b, .int .i64 cp, .bool o, .int .i64 d]] w fun e w' => e = .returned (.tuple #[.agg #[.int .i64 0, .int .i64 0, .int .i64 0, .int .i64 0, .bool false, .int .i64 0], .int .i64 1]) ∧ Below w.heap.size w w'))
    (S3 : (∀ w, Calls Try.prog 16 #[.agg #[.int .i64 n, .int .i64 wt, .int .i64 b, .int .i64 cp, .bool o, .int .i64 d]] w fun e w' => e = .returned (.tuple #[.agg #[.int .i64 0, .int .i64 0, .int .i64 0, .int .i64 0, .bool false, .int .i64 0], .bool false, .int .i64 1]) ∧ Below w.heap.size w w'))
    (S4 : (∀ w, Calls Try.prog 17 #[.agg #[.int .i64 n, .int .i64 wt, .int .i64 b, .int .i64 cp, .bool o, .int .i64 d]] w fun e w' => e = .returned (.tuple #[.agg #[.int .i64 0, .int .i64 0, .int .i64 0, .int .i64 0, .bool false, .int .i64 0], .int .i64 1]) ∧ Below w.heap.size w w'))
    (S5 : (∀ w, Calls Try.prog 18 #[.agg #[.int .i64 n, .int .i64 wt, .int .i64 b, .int .i64 cp, .bool o, .int .i64 d]] w fun e w' => e = .returned (.tuple #[.agg #[.int .i64 0, .int .i64 0, .int .i64 0, .int .i64 0, .bool false, .int .i64 0], .int .i64 1]) ∧ Below w.heap.size w w'))
    (S6 : (∀ w, Calls Try.prog 9 #[.agg #[.int .i64 n, .int .i64 wt, .int .i64 b, .int .i64 cp, .bool o, .int .i64 d]] w fun e w' => e = .returned (.bool false) ∧ Below w.heap.size w w'))
    : Calls Try.prog 4 #[.agg #[.int .i64 n, .int .i64 wt, .int .i64 b, .int .i64 cp, .bool o, .int .i64 d]] W fun e w' => e = .returned (.bool true) ∧ Below W.heap.size W w' := by
  go_enter Try.func4, Try.ntmps4
  go_wp2_with fail
  have B := Below.refl W.heap.size W
  refine (S1 _).mono ?_
  rintro e w1 ⟨rfl, g1⟩
  have sw1 := g1.size
  try simp only [World.size_alloc, World.size_setCell, World.size_drew] at sw1
  have rc1 : w1.heap[W.heap.size]? = some (.cells #[.int .i64 n, .int .i64 wt, .int .i64 b, .int .i64 cp, .bool o, .int .i64 d] 23 (0, 0)) := (g1.block _ (by go_size)).trans (by repeat' (first | (with_reducible assumption) | (with_reducible exact heap_alloc_new _ _) | (with_reducible exact (two_allocs _ _ _).2.1) | (with_reducible apply set6_new; with_reducible assumption) | (with_reducible refine (heap_alloc_old _ _ ?_).trans ?_) | (with_reducible refine (set6_old ?_).trans ?_) | go_size))
  have B := chain (W := W) (by go_grown) g1
  have sB := B.size
  clear g1
  have ltc := lt_of_block rc1
  obtain ⟨bc0, bc1, bc2, bc3, bc4, bc5, bfc⟩ := block_cells rc1
  have bfc0 := bfc 0
  have bfc1 := bfc 1
  have bfc2 := bfc 2
  have bfc3 := bfc 3
  have bfc4 := bfc 4
  have bfc5 := bfc 5
  clear bfc
  go_wp2_with fail
  refine (S2 _).mono ?_
  rintro e w2 ⟨rfl, g2⟩
  clear bc0 bfc0 bc1 bfc1 bc2 bfc2 bc3 bfc3 bc4 bfc4 bc5 bfc5
  have sw2 := g2.size
  try simp only [World.size_alloc, World.size_setCell, World.size_drew] at sw2
  have rc2 : w2.heap[W.heap.size]? = some (.cells #[.int .i64 n, .int .i64 wt, .int .i64 b, .int .i64 cp, .bool o, .int .i64 d] 23 (0, 0)) := (g2.block _ (by go_size)).trans (by repeat' (first | (with_reducible assumption) | (with_reducible exact heap_alloc_new _ _) | (with_reducible exact (two_allocs _ _ _).2.1) | (with_reducible apply set6_new; with_reducible assumption) | (with_reducible refine (heap_alloc_old _ _ ?_).trans ?_) | (with_reducible refine (set6_old ?_).trans ?_) | go_size))
  have ra2 : w2.heap[w1.heap.size]? = some (.cells #[.int .i64 0, .int .i64 0, .int .i64 0, .int .i64 0, .bool false, .int .i64 0] 23 (0, 0)) := (g2.block _ (by go_size)).trans (by repeat' (first | (with_reducible assumption) | (with_reducible exact heap_alloc_new _ _) | (with_reducible exact (two_allocs _ _ _).2.1) | (with_reducible apply set6_new; with_reducible assumption) | (with_reducible refine (heap_alloc_old _ _ ?_).trans ?_) | (with_reducible refine (set6_old ?_).trans ?_) | go_size))
  have B := chain (W := W) (by go_grown) g2
  have sB := B.size
  clear g2
  clear rc1
  have ltc := lt_of_block rc2
  obtain ⟨bc0, bc1, bc2, bc3, bc4, bc5, bfc⟩ := block_cells rc2
  have bfc0 := bfc 0
  have bfc1 := bfc 1
  have bfc2 := bfc 2
  have bfc3 := bfc 3
  have bfc4 := bfc 4
  have bfc5 := bfc 5
  clear bfc
  go_wp2_with fail
  refine (S3 _).mono ?_
  rintro e w3 ⟨rfl, g3⟩
  clear bc0 bfc0 bc1 bfc1 bc2 bfc2 bc3 bfc3 bc4 bfc4 bc5 bfc5
  have sw3 := g3.size
  try simp only [World.size_alloc, World.size_setCell, World.size_drew] at sw3
  have rc3 : w3.heap[W.heap.size]? = some (.cells #[.int .i64 n, .int .i64 wt, .int .i64 b, .int .i64 cp, .bool o, .int .i64 d] 23 (0, 0)) := (g3.block _ (by go_size)).trans (by repeat' (first | (with_reducible assumption) | (with_reducible exact heap_alloc_new _ _) | (with_reducible exact (two_allocs _ _ _).2.1) | (with_reducible apply set6_new; with_reducible assumption) | (with_reducible refine (heap_alloc_old _ _ ?_).trans ?_) | (with_reducible refine (set6_old ?_).trans ?_) | go_size))
  have ra3 : w3.heap[w1.heap.size]? = some (.cells #[.int .i64 0, .int .i64 0, .int .i64 0, .int .i64 0, .bool false, .int .i64 0] 23 (0, 0)) := (g3.block _ (by go_size)).trans (by repeat' (first | (with_reducible assumption) | (with_reducible exact heap_alloc_new _ _) | (with_reducible exact (two_allocs _ _ _).2.1) | (with_reducible apply set6_new; with_reducible assumption) | (with_reducible refine (heap_alloc_old _ _ ?_).trans ?_) | (with_reducible refine (set6_old ?_).trans ?_) | go_size))
  have rb3 : w3.heap[w2.heap.size]? = some (.cells #[.int .i64 0, .int .i64 0, .int .i64 0, .int .i64 0, .bool false, .int .i64 0] 23 (0, 0)) := (g3.block _ (by go_size)).trans (by repeat' (first | (with_reducible assumption) | (with_reducible exact heap_alloc_new _ _) | (with_reducible exact (two_allocs _ _ _).2.1) | (with_reducible apply set6_new; with_reducible assumption) | (with_reducible refine (heap_alloc_old _ _ ?_).trans ?_) | (with_reducible refine (set6_old ?_).trans ?_) | go_size))
  have B := chain (W := W) (by go_grown) g3
  have sB := B.size
  clear g3
  clear rc2 ra2
  have ltc := lt_of_block rc3
  obtain ⟨bc0, bc1, bc2, bc3, bc4, bc5, bfc⟩ := block_cells rc3
  have bfc0 := bfc 0
  have bfc1 := bfc 1
  have bfc2 := bfc 2
  have bfc3 := bfc 3
  have bfc4 := bfc 4
  have bfc5 := bfc 5
  clear bfc
  go_wp2_with fail
  refine (S4 _).mono ?_
  rintro e w4 ⟨rfl, g4⟩
  clear bc0 bfc0 bc1 bfc1 bc2 bfc2 bc3 bfc3 bc4 bfc4 bc5 bfc5
  have sw4 := g4.size
  try simp only [World.size_alloc, World.size_setCell, World.size_drew] at sw4
  have rc4 : w4.heap[W.heap.size]? = some (.cells #[.int .i64 n, .int .i64 wt, .int .i64 b, .int .i64 cp, .bool o, .int .i64 d] 23 (0, 0)) := (g4.block _ (by go_size)).trans (by repeat' (first | (with_reducible assumption) | (with_reducible exact heap_alloc_new _ _) | (with_reducible exact (two_allocs _ _ _).2.1) | (with_reducible apply set6_new; with_reducible assumption) | (with_reducible refine (heap_alloc_old _ _ ?_).trans ?_) | (with_reducible refine (set6_old ?_).trans ?_) | go_size))
  have ra4 : w4.heap[w1.heap.size]? = some (.cells #[.int .i64 0, .int .i64 0, .int .i64 0, .int .i64 0, .bool false, .int .i64 0] 23 (0, 0)) := (g4.block _ (by go_size)).trans (by repeat' (first | (with_reducible assumption) | (with_reducible exact heap_alloc_new _ _) | (with_reducible exact (two_allocs _ _ _).2.1) | (with_reducible apply set6_new; with_reducible assumption) | (with_reducible refine (heap_alloc_old _ _ ?_).trans ?_) | (with_reducible refine (set6_old ?_).trans ?_) | go_size))
  have rb4 : w4.heap[w2.heap.size]? = some (.cells #[.int .i64 0, .int .i64 0, .int .i64 0, .int .i64 0, .bool false, .int .i64 0] 23 (0, 0)) := (g4.block _ (by go_size)).trans (by repeat' (first | (with_reducible assumption) | (with_reducible exact heap_alloc_new _ _) | (with_reducible exact (two_allocs _ _ _).2.1) | (with_reducible apply set6_new; with_reducible assumption) | (with_reducible refine (heap_alloc_old _ _ ?_).trans ?_) | (with_reducible refine (set6_old ?_).trans ?_) | go_size))
  have rd4 : w4.heap[w3.heap.size]? = some (.cells #[.int .i64 0, .int .i64 0, .int .i64 0, .int .i64 0, .bool false, .int .i64 0] 23 (0, 0)) := (g4.block _ (by go_size)).trans (by repeat' (first | (with_reducible assumption) | (with_reducible exact heap_alloc_new _ _) | (with_reducible exact (two_allocs _ _ _).2.1) | (with_reducible apply set6_new; with_reducible assumption) | (with_reducible refine (heap_alloc_old _ _ ?_).trans ?_) | (with_reducible refine (set6_old ?_).trans ?_) | go_size))
  have B := chain (W := W) (by go_grown) g4
  have sB := B.size
  clear g4
  clear rc3 ra3 rb3
  have ltc := lt_of_block rc4
  obtain ⟨bc0, bc1, bc2, bc3, bc4, bc5, bfc⟩ := block_cells rc4
  have bfc0 := bfc 0
  have bfc1 := bfc 1
  have bfc2 := bfc 2
  have bfc3 := bfc 3
  have bfc4 := bfc 4
  have bfc5 := bfc 5
  clear bfc
  go_wp2_with fail
  refine (S5 _).mono ?_
  rintro e w5 ⟨rfl, g5⟩
  clear bc0 bfc0 bc1 bfc1 bc2 bfc2 bc3 bfc3 bc4 bfc4 bc5 bfc5
  have sw5 := g5.size
  try simp only [World.size_alloc, World.size_setCell, World.size_drew] at sw5
  have rc5 : w5.heap[W.heap.size]? = some (.cells #[.int .i64 n, .int .i64 wt, .int .i64 b, .int .i64 cp, .bool o, .int .i64 d] 23 (0, 0)) := (g5.block _ (by go_size)).trans (by repeat' (first | (with_reducible assumption) | (with_reducible exact heap_alloc_new _ _) | (with_reducible exact (two_allocs _ _ _).2.1) | (with_reducible apply set6_new; with_reducible assumption) | (with_reducible refine (heap_alloc_old _ _ ?_).trans ?_) | (with_reducible refine (set6_old ?_).trans ?_) | go_size))
  have ra5 : w5.heap[w1.heap.size]? = some (.cells #[.int .i64 0, .int .i64 0, .int .i64 0, .int .i64 0, .bool false, .int .i64 0] 23 (0, 0)) := (g5.block _ (by go_size)).trans (by repeat' (first | (with_reducible assumption) | (with_reducible exact heap_alloc_new _ _) | (with_reducible exact (two_allocs _ _ _).2.1) | (with_reducible apply set6_new; with_reducible assumption) | (with_reducible refine (heap_alloc_old _ _ ?_).trans ?_) | (with_reducible refine (set6_old ?_).trans ?_) | go_size))
  have rb5 : w5.heap[w2.heap.size]? = some (.cells #[.int .i64 0, .int .i64 0, .int .i64 0, .int .i64 0, .bool false, .int .i64 0] 23 (0, 0)) := (g5.block _ (by go_size)).trans (by repeat' (first | (with_reducible assumption) | (with_reducible exact heap_alloc_new _ _) | (with_reducible exact (two_allocs _ _ _).2.1) | (with_reducible apply set6_new; with_reducible assumption) | (with_reducible refine (heap_alloc_old _ _ ?_).trans ?_) | (with_reducible refine (set6_old ?_).trans ?_) | go_size))
  have rd5 : w5.heap[w3.heap.size]? = some (.cells #[.int .i64 0, .int .i64 0, .int .i64 0, .int .i64 0, .bool false, .int .i64 0] 23 (0, 0)) := (g5.block _ (by go_size)).trans (by repeat' (first | (with_reducible assumption) | (with_reducible exact heap_alloc_new _ _) | (with_reducible exact (two_allocs _ _ _).2.1) | (with_reducible apply set6_new; with_reducible assumption) | (with_reducible refine (heap_alloc_old _ _ ?_).trans ?_) | (with_reducible refine (set6_old ?_).trans ?_) | go_size))
  have rx5 : w5.heap[w4.heap.size]? = some (.cells #[.int .i64 0, .int .i64 0, .int .i64 0, .int .i64 0, .bool false, .int .i64 0] 23 (0, 0)) := (g5.block _ (by go_size)).trans (by repeat' (first | (with_reducible assumption) | (with_reducible exact heap_alloc_new _ _) | (with_reducible exact (two_allocs _ _ _).2.1) | (with_reducible apply set6_new; with_reducible assumption) | (with_reducible refine (heap_alloc_old _ _ ?_).trans ?_) | (with_reducible refine (set6_old ?_).trans ?_) | go_size))
  have B := chain (W := W) (by go_grown) g5
  have sB := B.size
  clear g5
  clear rc4 ra4 rb4 rd4
  have ltc := lt_of_block rc5
  obtain ⟨bc0, bc1, bc2, bc3, bc4, bc5, bfc⟩ := block_cells rc5
  have bfc0 := bfc 0
  have bfc1 := bfc 1
  have bfc2 := bfc 2
  have bfc3 := bfc 3
  have bfc4 := bfc 4
  have bfc5 := bfc 5
  clear bfc
  go_wp2_with fail
  refine (S6 _).mono ?_
  rintro e w6 ⟨rfl, g6⟩
  clear bc0 bfc0 bc1 bfc1 bc2 bfc2 bc3 bfc3 bc4 bfc4 bc5 bfc5
  have sw6 := g6.size
  try simp only [World.size_alloc, World.size_setCell, World.size_drew] at sw6
  have rc6 : w6.heap[W.heap.size]? = some (.cells #[.int .i64 n, .int .i64 wt, .int .i64 b, .int .i64 cp, .bool o, .int .i64 d] 23 (0, 0)) := (g6.block _ (by go_size)).trans (by repeat' (first | (with_reducible assumption) | (with_reducible exact heap_alloc_new _ _) | (with_reducible exact (two_allocs _ _ _).2.1) | (with_reducible apply set6_new; with_reducible assumption) | (with_reducible refine (heap_alloc_old _ _ ?_).trans ?_) | (with_reducible refine (set6_old ?_).trans ?_) | go_size))
  have ra6 : w6.heap[w1.heap.size]? = some (.cells #[.int .i64 0, .int .i64 0, .int .i64 0, .int .i64 0, .bool false, .int .i64 0] 23 (0, 0)) := (g6.block _ (by go_size)).trans (by repeat' (first | (with_reducible assumption) | (with_reducible exact heap_alloc_new _ _) | (with_reducible exact (two_allocs _ _ _).2.1) | (with_reducible apply set6_new; with_reducible assumption) | (with_reducible refine (heap_alloc_old _ _ ?_).trans ?_) | (with_reducible refine (set6_old ?_).trans ?_) | go_size))
  have rb6 : w6.heap[w2.heap.size]? = some (.cells #[.int .i64 0, .int .i64 0, .int .i64 0, .int .i64 0, .bool false, .int .i64 0] 23 (0, 0)) := (g6.block _ (by go_size)).trans (by repeat' (first | (with_reducible assumption) | (with_reducible exact heap_alloc_new _ _) | (with_reducible exact (two_allocs _ _ _).2.1) | (with_reducible apply set6_new; with_reducible assumption) | (with_reducible refine (heap_alloc_old _ _ ?_).trans ?_) | (with_reducible refine (set6_old ?_).trans ?_) | go_size))
  have rd6 : w6.heap[w3.heap.size]? = some (.cells #[.int .i64 0, .int .i64 0, .int .i64 0, .int .i64 0, .bool false, .int .i64 0] 23 (0, 0)) := (g6.block _ (by go_size)).trans (by repeat' (first | (with_reducible assumption) | (with_reducible exact heap_alloc_new _ _) | (with_reducible exact (two_allocs _ _ _).2.1) | (with_reducible apply set6_new; with_reducible assumption) | (with_reducible refine (heap_alloc_old _ _ ?_).trans ?_) | (with_reducible refine (set6_old ?_).trans ?_) | go_size))
  have rx6 : w6.heap[w4.heap.size]? = some (.cells #[.int .i64 0, .int .i64 0, .int .i64 0, .int .i64 0, .bool false, .int .i64 0] 23 (0, 0)) := (g6.block _ (by go_size)).trans (by repeat' (first | (with_reducible assumption) | (with_reducible exact heap_alloc_new _ _) | (with_reducible exact (two_allocs _ _ _).2.1) | (with_reducible apply set6_new; with_reducible assumption) | (with_reducible refine (heap_alloc_old _ _ ?_).trans ?_) | (with_reducible refine (set6_old ?_).trans ?_) | go_size))
  have ry6 : w6.heap[w5.heap.size]? = some (.cells #[.int .i64 0, .int .i64 0, .int .i64 0, .int .i64 0, .bool false, .int .i64 0] 23 (0, 0)) := (g6.block _ (by go_size)).trans (by repeat' (first | (with_reducible assumption) | (with_reducible exact heap_alloc_new _ _) | (with_reducible exact (two_allocs _ _ _).2.1) | (with_reducible apply set6_new; with_reducible assumption) | (with_reducible refine (heap_alloc_old _ _ ?_).trans ?_) | (with_reducible refine (set6_old ?_).trans ?_) | go_size))
  have rz6 : w6.heap[(w5.heap.size + 1)]? = some (.cells #[.int .i64 0, .int .i64 0, .int .i64 0, .int .i64 0, .bool false, .int .i64 0] 23 (0, 0)) := (g6.block _ (by go_size)).trans (by repeat' (first | (with_reducible assumption) | (with_reducible exact heap_alloc_new _ _) | (with_reducible exact (two_allocs _ _ _).2.1) | (with_reducible apply set6_new; with_reducible assumption) | (with_reducible refine (heap_alloc_old _ _ ?_).trans ?_) | (with_reducible refine (set6_old ?_).trans ?_) | go_size))
  have B := chain (W := W) (by go_grown) g6
  have sB := B.size
  clear g6
  clear rc5 ra5 rb5 rd5 rx5
  have ltc := lt_of_block rc6
  obtain ⟨bc0, bc1, bc2, bc3, bc4, bc5, bfc⟩ := block_cells rc6
  have bfc0 := bfc 0
  have bfc1 := bfc 1
  have bfc2 := bfc 2
  have bfc3 := bfc 3
  have bfc4 := bfc 4
  have bfc5 := bfc 5
  clear bfc
  have lta := lt_of_block ra6
  obtain ⟨ba0, ba1, ba2, ba3, ba4, ba5, bfa⟩ := block_cells ra6
  have bfa0 := bfa 0
  have bfa1 := bfa 1
  have bfa2 := bfa 2
  have bfa3 := bfa 3
  have bfa4 := bfa 4
  have bfa5 := bfa 5
  clear bfa
  have ltb := lt_of_block rb6
  obtain ⟨bb0, bb1, bb2, bb3, bb4, bb5, bfb⟩ := block_cells rb6
  have bfb0 := bfb 0
  have bfb1 := bfb 1
  have bfb2 := bfb 2
  have bfb3 := bfb 3
  have bfb4 := bfb 4
  have bfb5 := bfb 5
  clear bfb
  have ltd := lt_of_block rd6
  obtain ⟨bd0, bd1, bd2, bd3, bd4, bd5, bfd⟩ := block_cells rd6
  have bfd0 := bfd 0
  have bfd1 := bfd 1
  have bfd2 := bfd 2
  have bfd3 := bfd 3
  have bfd4 := bfd 4
  have bfd5 := bfd 5
  clear bfd
  have ltx := lt_of_block rx6
  obtain ⟨bx0, bx1, bx2, bx3, bx4, bx5, bfx⟩ := block_cells rx6
  have bfx0 := bfx 0
  have bfx1 := bfx 1
  have bfx2 := bfx 2
  have bfx3 := bfx 3
  have bfx4 := bfx 4
  have bfx5 := bfx 5
  clear bfx
  have lty := lt_of_block ry6
  obtain ⟨by0, by1, by2, by3, by4, by5, bfy⟩ := block_cells ry6
  have bfy0 := bfy 0
  have bfy1 := bfy 1
  have bfy2 := bfy 2
  have bfy3 := bfy 3
  have bfy4 := bfy 4
  have bfy5 := bfy 5
  clear bfy
  have ltz := lt_of_block rz6
  obtain ⟨bz0, bz1, bz2, bz3, bz4, bz5, bfz⟩ := block_cells rz6
  have bfz0 := bfz 0
  have bfz1 := bfz 1
  have bfz2 := bfz 2
  have bfz3 := bfz 3
  have bfz4 := bfz 4
  have bfz5 := bfz 5
  clear bfz
  go_wp2_with (go_at_call 13; refine (up (awake_any _) (by go_grown : Below W.heap.size W _)).mono ?_; rintro e w9 ⟨rfl, B⟩)
  go_ret
  exact ⟨rfl, by go_grown⟩
set_option maxRecDepth 100000 in
set_option maxHeartbeats 1000000 in
theorem does_last (wt b cp d v2 dz v5 : Int) (o : Bool) (W : World)
    (S1 : (∀ w, Calls Try.prog 14 #[.agg #[.int .i64 1099511627776, .int .i64 wt, .int .i64 b, .int .i64 cp, .bool o, .int .i64 d]] w fun e w' => e = .returned (.tuple #[.agg #[.int .i64 1099511627776, .int .i64 wt, .int .i64 b, .int .i64 cp, .bool true, .int .i64 v5], .int .i64 0]) ∧ Below w.heap.size w w'))
    (S2 : (∀ w, Calls Try.prog 15 #[.agg #[.int .i64 1099511627776, .int .i64 wt, .int .i64 b, .int .i64 cp, .bool o, .int .i64 d]] w fun e w' => e = .returned (.tuple #[.agg #[.int .i64 1099511627776, .int .i64 wt, .int .i64 b, .int .i64 cp, .bool false, .int .i64 0], .int .i64 0]) ∧ Below w.heap.size w w'))
    (S3 : (∀ w, Calls Try.prog 16 #[.agg #[.int .i64 1099511627776, .int .i64 wt, .int .i64 b, .int .i64 cp, .bool o, .int .i64 d]] w fun e w' => e = .returned (.tuple #[.agg #[.int .i64 0, .int .i64 0, .int .i64 0, .int .i64 0, .bool false, .int .i64 0], .bool false, .int .i64 8]) ∧ Below w.heap.size w w'))
    (S4 : (∀ w, Calls Try.prog 17 #[.agg #[.int .i64 1099511627776, .int .i64 wt, .int .i64 b, .int .i64 cp, .bool o, .int .i64 d]] w fun e w' => e = .returned (.tuple #[.agg #[.int .i64 1099511627776, .int .i64 v2, .int .i64 b, .int .i64 cp, .bool o, .int .i64 d], .int .i64 0]) ∧ Below w.heap.size w w'))
    (S5 : (∀ w, Calls Try.prog 18 #[.agg #[.int .i64 1099511627776, .int .i64 wt, .int .i64 b, .int .i64 cp, .bool o, .int .i64 d]] w fun e w' => e = .returned (.tuple #[.agg #[.int .i64 1099511627776, .int .i64 b, .int .i64 b, .int .i64 cp, .bool o, .int .i64 dz], .int .i64 0]) ∧ Below w.heap.size w w'))
    (S6 : (∀ w, Calls Try.prog 9 #[.agg #[.int .i64 1099511627776, .int .i64 wt, .int .i64 b, .int .i64 cp, .bool o, .int .i64 d]] w fun e w' => e = .returned (.bool true) ∧ Below w.heap.size w w'))
    (R1 : (∀ w, Calls Try.prog 19 #[.agg #[.int .i64 1099511627776, .int .i64 wt, .int .i64 b, .int .i64 cp, .bool o, .int .i64 d], .int .i64 wt] w fun e w' => e = .returned (.agg #[.int .i64 1099511627776, .int .i64 wt, .int .i64 b, .int .i64 cp, .bool true, .int .i64 v5]) ∧ Below w.heap.size w w'))
    (R2 : (∀ w, Calls Try.prog 19 #[.agg #[.int .i64 1099511627776, .int .i64 wt, .int .i64 b, .int .i64 cp, .bool o, .int .i64 d], .int .i64 0] w fun e w' => e = .returned (.agg #[.int .i64 1099511627776, .int .i64 wt, .int .i64 b, .int .i64 cp, .bool false, .int .i64 0]) ∧ Below w.heap.size w w'))
    (R3 : (∀ w, Calls Try.prog 20 #[.agg #[.int .i64 1099511627776, .int .i64 wt, .int .i64 b, .int .i64 cp, .bool o, .int .i64 d]] w fun e w' => e = .returned (.agg #[.int .i64 1099511627776, .int .i64 v2, .int .i64 b, .int .i64 cp, .bool o, .int .i64 d]) ∧ Below w.heap.size w w'))
    (R4 : (∀ w, Calls Try.prog 21 #[.agg #[.int .i64 1099511627776, .int .i64 wt, .int .i64 b, .int .i64 cp, .bool o, .int .i64 d]] w fun e w' => e = .returned (.agg #[.int .i64 1099511627776, .int .i64 b, .int .i64 b, .int .i64 cp, .bool o, .int .i64 dz]) ∧ Below w.heap.size w w'))
    : Calls Try.prog 4 #[.agg #[.int .i64 1099511627776, .int .i64 wt, .int .i64 b, .int .i64 cp, .bool o, .int .i64 d]] W fun e w' => e = .returned (.bool true) ∧ Below W.heap.size W w' := by
  go_enter Try.func4, Try.ntmps4
  go_wp2_with fail
  have B := Below.refl W.heap.size W
  refine (S1 _).mono ?_
  rintro e w1 ⟨rfl, g1⟩
  have sw1 := g1.size
  try simp only [World.size_alloc, World.size_setCell, World.size_drew] at sw1
  have rc1 : w1.heap[W.heap.size]? = some (.cells #[.int .i64 1099511627776, .int .i64 wt, .int .i64 b, .int .i64 cp, .bool o, .int .i64 d] 23 (0, 0)) := (g1.block _ (by go_size)).trans (by repeat' (first | (with_reducible assumption) | (with_reducible exact heap_alloc_new _ _) | (with_reducible exact (two_allocs _ _ _).2.1) | (with_reducible apply set6_new; with_reducible assumption) | (with_reducible refine (heap_alloc_old _ _ ?_).trans ?_) | (with_reducible refine (set6_old ?_).trans ?_) | go_size))
  have B := chain (W := W) (by go_grown) g1
  have sB := B.size
  clear g1
  have ltc := lt_of_block rc1
  obtain ⟨bc0, bc1, bc2, bc3, bc4, bc5, bfc⟩ := block_cells rc1
  have bfc0 := bfc 0
  have bfc1 := bfc 1
  have bfc2 := bfc 2
  have bfc3 := bfc 3
  have bfc4 := bfc 4
  have bfc5 := bfc 5
  clear bfc
  go_wp2_with fail
  refine (S2 _).mono ?_
  rintro e w2 ⟨rfl, g2⟩
  clear bc0 bfc0 bc1 bfc1 bc2 bfc2 bc3 bfc3 bc4 bfc4 bc5 bfc5
  have sw2 := g2.size
  try simp only [World.size_alloc, World.size_setCell, World.size_drew] at sw2
  have rc2 : w2.heap[W.heap.size]? = some (.cells #[.int .i64 1099511627776, .int .i64 wt, .int .i64 b, .int .i64 cp, .bool o, .int .i64 d] 23 (0, 0)) := (g2.block _ (by go_size)).trans (by repeat' (first | (with_reducible assumption) | (with_reducible exact heap_alloc_new _ _) | (with_reducible exact (two_allocs _ _ _).2.1) | (with_reducible apply set6_new; with_reducible assumption) | (with_reducible refine (heap_alloc_old _ _ ?_).trans ?_) | (with_reducible refine (set6_old ?_).trans ?_) | go_size))
  have ra2 : w2.heap[w1.heap.size]? = some (.cells #[.int .i64 1099511627776, .int .i64 wt, .int .i64 b, .int .i64 cp, .bool true, .int .i64 v5] 23 (0, 0)) := (g2.block _ (by go_size)).trans (by repeat' (first | (with_reducible assumption) | (with_reducible exact heap_alloc_new _ _) | (with_reducible exact (two_allocs _ _ _).2.1) | (with_reducible apply set6_new; with_reducible assumption) | (with_reducible refine (heap_alloc_old _ _ ?_).trans ?_) | (with_reducible refine (set6_old ?_).trans ?_) | go_size))
  have B := chain (W := W) (by go_grown) g2
  have sB := B.size
  clear g2
  clear rc1
  have ltc := lt_of_block rc2
  obtain ⟨bc0, bc1, bc2, bc3, bc4, bc5, bfc⟩ := block_cells rc2
  have bfc0 := bfc 0
  have bfc1 := bfc 1
  have bfc2 := bfc 2
  have bfc3 := bfc 3
  have bfc4 := bfc 4
  have bfc5 := bfc 5
  clear bfc
  go_wp2_with fail
  refine (S3 _).mono ?_
  rintro e w3 ⟨rfl, g3⟩
  clear bc0 bfc0 bc1 bfc1 bc2 bfc2 bc3 bfc3 bc4 bfc4 bc5 bfc5
  have sw3 := g3.size
  try simp only [World.size_alloc, World.size_setCell, World.size_drew] at sw3
  have rc3 : w3.heap[W.heap.size]? = some (.cells #[.int .i64 1099511627776, .int .i64 wt, .int .i64 b, .int .i64 cp, .bool o, .int .i64 d] 23 (0, 0)) := (g3.block _ (by go_size)).trans (by repeat' (first | (with_reducible assumption) | (with_reducible exact heap_alloc_new _ _) | (with_reducible exact (two_allocs _ _ _).2.1) | (with_reducible apply set6_new; with_reducible assumption) | (with_reducible refine (heap_alloc_old _ _ ?_).trans ?_) | (with_reducible refine (set6_old ?_).trans ?_) | go_size))
  have ra3 : w3.heap[w1.heap.size]? = some (.cells #[.int .i64 1099511627776, .int .i64 wt, .int .i64 b, .int .i64 cp, .bool true, .int .i64 v5] 23 (0, 0)) := (g3.block _ (by go_size)).trans (by repeat' (first | (with_reducible assumption) | (with_reducible exact heap_alloc_new _ _) | (with_reducible exact (two_allocs _ _ _).2.1) | (with_reducible apply set6_new; with_reducible assumption) | (with_reducible refine (heap_alloc_old _ _ ?_).trans ?_) | (with_reducible refine (set6_old ?_).trans ?_) | go_size))
  have rb3 : w3.heap[w2.heap.size]? = some (.cells #[.int .i64 1099511627776, .int .i64 wt, .int .i64 b, .int .i64 cp, .bool false, .int .i64 0] 23 (0, 0)) := (g3.block _ (by go_size)).trans (by repeat' (first | (with_reducible assumption) | (with_reducible exact heap_alloc_new _ _) | (with_reducible exact (two_allocs _ _ _).2.1) | (with_reducible apply set6_new; with_reducible assumption) | (with_reducible refine (heap_alloc_old _ _ ?_).trans ?_) | (with_reducible refine (set6_old ?_).trans ?_) | go_size))
  have B := chain (W := W) (by go_grown) g3
  have sB := B.size
  clear g3
  clear rc2 ra2
  have ltc := lt_of_block rc3
  obtain ⟨bc0, bc1, bc2, bc3, bc4, bc5, bfc⟩ := block_cells rc3
  have bfc0 := bfc 0
  have bfc1 := bfc 1
  have bfc2 := bfc 2
  have bfc3 := bfc 3
  have bfc4 := bfc 4
  have bfc5 := bfc 5
  clear bfc
  go_wp2_with fail
  refine (S4 _).mono ?_
  rintro e w4 ⟨rfl, g4⟩
  clear bc0 bfc0 bc1 bfc1 bc2 bfc2 bc3 bfc3 bc4 bfc4 bc5 bfc5
  have sw4 := g4.size
  try simp only [World.size_alloc, World.size_setCell, World.size_drew] at sw4
  have rc4 : w4.heap[W.heap.size]? = some (.cells #[.int .i64 1099511627776, .int .i64 wt, .int .i64 b, .int .i64 cp, .bool o, .int .i64 d] 23 (0, 0)) := (g4.block _ (by go_size)).trans (by repeat' (first | (with_reducible assumption) | (with_reducible exact heap_alloc_new _ _) | (with_reducible exact (two_allocs _ _ _).2.1) | (with_reducible apply set6_new; with_reducible assumption) | (with_reducible refine (heap_alloc_old _ _ ?_).trans ?_) | (with_reducible refine (set6_old ?_).trans ?_) | go_size))
  have ra4 : w4.heap[w1.heap.size]? = some (.cells #[.int .i64 1099511627776, .int .i64 wt, .int .i64 b, .int .i64 cp, .bool true, .int .i64 v5] 23 (0, 0)) := (g4.block _ (by go_size)).trans (by repeat' (first | (with_reducible assumption) | (with_reducible exact heap_alloc_new _ _) | (with_reducible exact (two_allocs _ _ _).2.1) | (with_reducible apply set6_new; with_reducible assumption) | (with_reducible refine (heap_alloc_old _ _ ?_).trans ?_) | (with_reducible refine (set6_old ?_).trans ?_) | go_size))
  have rb4 : w4.heap[w2.heap.size]? = some (.cells #[.int .i64 1099511627776, .int .i64 wt, .int .i64 b, .int .i64 cp, .bool false, .int .i64 0] 23 (0, 0)) := (g4.block _ (by go_size)).trans (by repeat' (first | (with_reducible assumption) | (with_reducible exact heap_alloc_new _ _) | (with_reducible exact (two_allocs _ _ _).2.1) | (with_reducible apply set6_new; with_reducible assumption) | (with_reducible refine (heap_alloc_old _ _ ?_).trans ?_) | (with_reducible refine (set6_old ?_).trans ?_) | go_size))
  have rd4 : w4.heap[w3.heap.size]? = some (.cells #[.int .i64 0, .int .i64 0, .int .i64 0, .int .i64 0, .bool false, .int .i64 0] 23 (0, 0)) := (g4.block _ (by go_size)).trans (by repeat' (first | (with_reducible assumption) | (with_reducible exact heap_alloc_new _ _) | (with_reducible exact (two_allocs _ _ _).2.1) | (with_reducible apply set6_new; with_reducible assumption) | (with_reducible refine (heap_alloc_old _ _ ?_).trans ?_) | (with_reducible refine (set6_old ?_).trans ?_) | go_size))
  have B := chain (W := W) (by go_grown) g4
  have sB := B.size
  clear g4
  clear rc3 ra3 rb3
  have ltc := lt_of_block rc4
  obtain ⟨bc0, bc1, bc2, bc3, bc4, bc5, bfc⟩ := block_cells rc4
  have bfc0 := bfc 0
  have bfc1 := bfc 1
  have bfc2 := bfc 2
  have bfc3 := bfc 3
  have bfc4 := bfc 4
  have bfc5 := bfc 5
  clear bfc
  go_wp2_with fail
  refine (S5 _).mono ?_
  rintro e w5 ⟨rfl, g5⟩
  clear bc0 bfc0 bc1 bfc1 bc2 bfc2 bc3 bfc3 bc4 bfc4 bc5 bfc5
  have sw5 := g5.size
  try simp only [World.size_alloc, World.size_setCell, World.size_drew] at sw5
  have rc5 : w5.heap[W.heap.size]? = some (.cells #[.int .i64 1099511627776, .int .i64 wt, .int .i64 b, .int .i64 cp, .bool o, .int .i64 d] 23 (0, 0)) := (g5.block _ (by go_size)).trans (by repeat' (first | (with_reducible assumption) | (with_reducible exact heap_alloc_new _ _) | (with_reducible exact (two_allocs _ _ _).2.1) | (with_reducible apply set6_new; with_reducible assumption) | (with_reducible refine (heap_alloc_old _ _ ?_).trans ?_) | (with_reducible refine (set6_old ?_).trans ?_) | go_size))
  have ra5 : w5.heap[w1.heap.size]? = some (.cells #[.int .i64 1099511627776, .int .i64 wt, .int .i64 b, .int .i64 cp, .bool true, .int .i64 v5] 23 (0, 0)) := (g5.block _ (by go_size)).trans (by repeat' (first | (with_reducible assumption) | (with_reducible exact heap_alloc_new _ _) | (with_reducible exact (two_allocs _ _ _).2.1) | (with_reducible apply set6_new; with_reducible assumption) | (with_reducible refine (heap_alloc_old _ _ ?_).trans ?_) | (with_reducible refine (set6_old ?_).trans ?_) | go_size))
  have rb5 : w5.heap[w2.heap.size]? = some (.cells #[.int .i64 1099511627776, .int .i64 wt, .int .i64 b, .int .i64 cp, .bool false, .int .i64 0] 23 (0, 0)) := (g5.block _ (by go_size)).trans (by repeat' (first | (with_reducible assumption) | (with_reducible exact heap_alloc_new _ _) | (with_reducible exact (two_allocs _ _ _).2.1) | (with_reducible apply set6_new; with_reducible assumption) | (with_reducible refine (heap_alloc_old _ _ ?_).trans ?_) | (with_reducible refine (set6_old ?_).trans ?_) | go_size))
  have rd5 : w5.heap[w3.heap.size]? = some (.cells #[.int .i64 0, .int .i64 0, .int .i64 0, .int .i64 0, .bool false, .int .i64 0] 23 (0, 0)) := (g5.block _ (by go_size)).trans (by repeat' (first | (with_reducible assumption) | (with_reducible exact heap_alloc_new _ _) | (with_reducible exact (two_allocs _ _ _).2.1) | (with_reducible apply set6_new; with_reducible assumption) | (with_reducible refine (heap_alloc_old _ _ ?_).trans ?_) | (with_reducible refine (set6_old ?_).trans ?_) | go_size))
  have rx5 : w5.heap[w4.heap.size]? = some (.cells #[.int .i64 1099511627776, .int .i64 v2, .int .i64 b, .int .i64 cp, .bool o, .int .i64 d] 23 (0, 0)) := (g5.block _ (by go_size)).trans (by repeat' (first | (with_reducible assumption) | (with_reducible exact heap_alloc_new _ _) | (with_reducible exact (two_allocs _ _ _).2.1) | (with_reducible apply set6_new; with_reducible assumption) | (with_reducible refine (heap_alloc_old _ _ ?_).trans ?_) | (with_reducible refine (set6_old ?_).trans ?_) | go_size))
  have B := chain (W := W) (by go_grown) g5
  have sB := B.size
  clear g5
  clear rc4 ra4 rb4 rd4
  have ltc := lt_of_block rc5
  obtain ⟨bc0, bc1, bc2, bc3, bc4, bc5, bfc⟩ := block_cells rc5
  have bfc0 := bfc 0
  have bfc1 := bfc 1
  have bfc2 := bfc 2
  have bfc3 := bfc 3
  have bfc4 := bfc 4
  have bfc5 := bfc 5
  clear bfc
  go_wp2_with fail
  refine (S6 _).mono ?_
  rintro e w6 ⟨rfl, g6⟩
  clear bc0 bfc0 bc1 bfc1 bc2 bfc2 bc3 bfc3 bc4 bfc4 bc5 bfc5
  have sw6 := g6.size
  try simp only [World.size_alloc, World.size_setCell, World.size_drew] at sw6
  have rc6 : w6.heap[W.heap.size]? = some (.cells #[.int .i64 1099511627776, .int .i64 wt, .int .i64 b, .int .i64 cp, .bool o, .int .i64 d] 23 (0, 0)) := (g6.block _ (by go_size)).trans (by repeat' (first | (with_reducible assumption) | (with_reducible exact heap_alloc_new _ _) | (with_reducible exact (two_allocs _ _ _).2.1) | (with_reducible apply set6_new; with_reducible assumption) | (with_reducible refine (heap_alloc_old _ _ ?_).trans ?_) | (with_reducible refine (set6_old ?_).trans ?_) | go_size))
  have ra6 : w6.heap[w1.heap.size]? = some (.cells #[.int .i64 1099511627776, .int .i64 wt, .int .i64 b, .int .i64 cp, .bool true, .int .i64 v5] 23 (0, 0)) := (g6.block _ (by go_size)).trans (by repeat' (first | (with_reducible assumption) | (with_reducible exact heap_alloc_new _ _) | (with_reducible exact (two_allocs _ _ _).2.1) | (with_reducible apply set6_new; with_reducible assumption) | (with_reducible refine (heap_alloc_old _ _ ?_).trans ?_) | (with_reducible refine (set6_old ?_).trans ?_) | go_size))
  have rb6 : w6.heap[w2.heap.size]? = some (.cells #[.int .i64 1099511627776, .int .i64 wt, .int .i64 b, .int .i64 cp, .bool false, .int .i64 0] 23 (0, 0)) := (g6.block _ (by go_size)).trans (by repeat' (first | (with_reducible assumption) | (with_reducible exact heap_alloc_new _ _) | (with_reducible exact (two_allocs _ _ _).2.1) | (with_reducible apply set6_new; with_reducible assumption) | (with_reducible refine (heap_alloc_old _ _ ?_).trans ?_) | (with_reducible refine (set6_old ?_).trans ?_) | go_size))
  have rd6 : w6.heap[w3.heap.size]? = some (.cells #[.int .i64 0, .int .i64 0, .int .i64 0, .int .i64 0, .bool false, .int .i64 0] 23 (0, 0)) := (g6.block _ (by go_size)).trans (by repeat' (first | (with_reducible assumption) | (with_reducible exact heap_alloc_new _ _) | (with_reducible exact (two_allocs _ _ _).2.1) | (with_reducible apply set6_new; with_reducible assumption) | (with_reducible refine (heap_alloc_old _ _ ?_).trans ?_) | (with_reducible refine (set6_old ?_).trans ?_) | go_size))
  have rx6 : w6.heap[w4.heap.size]? = some (.cells #[.int .i64 1099511627776, .int .i64 v2, .int .i64 b, .int .i64 cp, .bool o, .int .i64 d] 23 (0, 0)) := (g6.block _ (by go_size)).trans (by repeat' (first | (with_reducible assumption) | (with_reducible exact heap_alloc_new _ _) | (with_reducible exact (two_allocs _ _ _).2.1) | (with_reducible apply set6_new; with_reducible assumption) | (with_reducible refine (heap_alloc_old _ _ ?_).trans ?_) | (with_reducible refine (set6_old ?_).trans ?_) | go_size))
  have ry6 : w6.heap[w5.heap.size]? = some (.cells #[.int .i64 1099511627776, .int .i64 b, .int .i64 b, .int .i64 cp, .bool o, .int .i64 dz] 23 (0, 0)) := (g6.block _ (by go_size)).trans (by repeat' (first | (with_reducible assumption) | (with_reducible exact heap_alloc_new _ _) | (with_reducible exact (two_allocs _ _ _).2.1) | (with_reducible apply set6_new; with_reducible assumption) | (with_reducible refine (heap_alloc_old _ _ ?_).trans ?_) | (with_reducible refine (set6_old ?_).trans ?_) | go_size))
  have rz6 : w6.heap[(w5.heap.size + 1)]? = some (.cells #[.int .i64 0, .int .i64 0, .int .i64 0, .int .i64 0, .bool false, .int .i64 0] 23 (0, 0)) := (g6.block _ (by go_size)).trans (by repeat' (first | (with_reducible assumption) | (with_reducible exact heap_alloc_new _ _) | (with_reducible exact (two_allocs _ _ _).2.1) | (with_reducible apply set6_new; with_reducible assumption) | (with_reducible refine (heap_alloc_old _ _ ?_).trans ?_) | (with_reducible refine (set6_old ?_).trans ?_) | go_size))
  have B := chain (W := W) (by go_grown) g6
  have sB := B.size
  clear g6
  clear rc5 ra5 rb5 rd5 rx5
  have ltc := lt_of_block rc6
  obtain ⟨bc0, bc1, bc2, bc3, bc4, bc5, bfc⟩ := block_cells rc6
  have bfc0 := bfc 0
  have bfc1 := bfc 1
  have bfc2 := bfc 2
  have bfc3 := bfc 3
  have bfc4 := bfc 4
  have bfc5 := bfc 5
  clear bfc
  have lta := lt_of_block ra6
  obtain ⟨ba0, ba1, ba2, ba3, ba4, ba5, bfa⟩ := block_cells ra6
  have bfa0 := bfa 0
  have bfa1 := bfa 1
  have bfa2 := bfa 2
  have bfa3 := bfa 3
  have bfa4 := bfa 4
  have bfa5 := bfa 5
  clear bfa
  have ltb := lt_of_block rb6
  obtain ⟨bb0, bb1, bb2, bb3, bb4, bb5, bfb⟩ := block_cells rb6
  have bfb0 := bfb 0
  have bfb1 := bfb 1
  have bfb2 := bfb 2
  have bfb3 := bfb 3
  have bfb4 := bfb 4
  have bfb5 := bfb 5
  clear bfb
  have ltd := lt_of_block rd6
  obtain ⟨bd0, bd1, bd2, bd3, bd4, bd5, bfd⟩ := block_cells rd6
  have bfd0 := bfd 0
  have bfd1 := bfd 1
  have bfd2 := bfd 2
  have bfd3 := bfd 3
  have bfd4 := bfd 4
  have bfd5 := bfd 5
  clear bfd
  have ltx := lt_of_block rx6
  obtain ⟨bx0, bx1, bx2, bx3, bx4, bx5, bfx⟩ := block_cells rx6
  have bfx0 := bfx 0
  have bfx1 := bfx 1
  have bfx2 := bfx 2
  have bfx3 := bfx 3
  have bfx4 := bfx 4
  have bfx5 := bfx 5
  clear bfx
  have lty := lt_of_block ry6
  obtain ⟨by0, by1, by2, by3, by4, by5, bfy⟩ := block_cells ry6
  have bfy0 := bfy 0
  have bfy1 := bfy 1
  have bfy2 := bfy 2
  have bfy3 := bfy 3
  have bfy4 := bfy 4
  have bfy5 := bfy 5
  clear bfy
  have ltz := lt_of_block rz6
  obtain ⟨bz0, bz1, bz2, bz3, bz4, bz5, bfz⟩ := block_cells rz6
  have bfz0 := bfz 0
  have bfz1 := bfz 1
  have bfz2 := bfz 2
  have bfz3 := bfz 3
  have bfz4 := bfz 4
  have bfz5 := bfz 5
  clear bfz
  go_wp2_with fail
  clear bc0 bfc0 bc1 bfc1 bc2 bfc2 bc3 bfc3 bc4 bfc4 bc5 bfc5 ba0 bfa0 ba1 bfa1 ba2 bfa2 ba3 bfa3 ba4 bfa4 ba5 bfa5 bb0 bfb0 bb1 bfb1 bb2 bfb2 bb3 bfb3 bb4 bfb4 bb5 bfb5 bd0 bfd0 bd1 bfd1 bd2 bfd2 bd3 bfd3 bd4 bfd4 bd5 bfd5 bx0 bfx0 bx1 bfx1 bx2 bfx2 bx3 bfx3 bx4 bfx4 bx5 bfx5 by0 bfy0 by1 bfy1 by2 bfy2 by3 bfy3 by4 bfy4 by5 bfy5 bz0 bfz0 bz1 bfz1 bz2 bfz2 bz3 bfz3 bz4 bfz4 bz5 bfz5
  refine g_start (by kernel_rfl) ?_
  refine g_take (i := 0) (d := (some 99)) (v := ?_) rfl rfl (by kernel_rfl) (fun _ _ _ h => h) (by rfl) (fun w' hb' => ?_) ?_
  rotate_left
  · have z : w'.heap[w1.heap.size]? = some (.cells #[.int .i64 1099511627776, .int .i64 wt, .int .i64 b, .int .i64 cp, .bool true, .int .i64 v5] 23 (0, 0)) := (hb'.block _ (lt_of_block ra6)).trans (ra6); obtain ⟨z0, z1, z2, z3, z4, z5, zf⟩ := block_cells z; (try go_simp); (try with_reducible rfl)
  try simp only [Act.put, List.setIfInBounds_toArray, List.set_cons_zero, List.set_cons_succ]
  refine g_take (i := 1) (d := (some 100)) (v := ?_) rfl rfl (by kernel_rfl) (fun _ _ _ h => h) (by rfl) (fun w' hb' => ?_) ?_
  rotate_left
  · have z : w'.heap[W.heap.size]? = some (.cells #[.int .i64 1099511627776, .int .i64 wt, .int .i64 b, .int .i64 cp, .bool o, .int .i64 d] 23 (0, 0)) := (hb'.block _ (lt_of_block rc6)).trans (rc6); obtain ⟨z0, z1, z2, z3, z4, z5, zf⟩ := block_cells z; (try go_simp); (try with_reducible rfl)
  try simp only [Act.put, List.setIfInBounds_toArray, List.set_cons_zero, List.set_cons_succ]
  refine g_take (i := 2) (d := (some 101)) (v := ?_) rfl rfl (by kernel_rfl) (fun _ _ _ h => h) (by rfl) (fun w' hb' => ?_) ?_
  rotate_left
  · (try go_simp); (try with_reducible rfl)
  try simp only [Act.put, List.setIfInBounds_toArray, List.set_cons_zero, List.set_cons_succ]
  refine g_take (i := 3) (d := (some 102)) (v := ?_) rfl rfl (by kernel_rfl) (fun _ _ _ h => h) (by rfl) (fun w' hb' => ?_) ?_
  rotate_left
  · have z : w'.heap[W.heap.size]? = some (.cells #[.int .i64 1099511627776, .int .i64 wt, .int .i64 b, .int .i64 cp, .bool o, .int .i64 d] 23 (0, 0)) := (hb'.block _ (lt_of_block rc6)).trans (rc6); obtain ⟨z0, z1, z2, z3, z4, z5, zf⟩ := block_cells z; (try go_simp); (try with_reducible rfl)
  try simp only [Act.put, List.setIfInBounds_toArray, List.set_cons_zero, List.set_cons_succ]
  refine g_run (i := 4) rfl (by kernel_rfl) (by rfl) (fun K hK => ?_)
  go_simp; refine (R1 _).mono ?_; rintro e w7 ⟨rfl, g⟩; refine hK _ _ ⟨g, ?_⟩; have B := chain (W := W) (by go_grown) g; have sB := B.size; have rc7 := (g.block _ (lt_of_block (w := w6.drew) rc6)).trans rc6; have ra7 := (g.block _ (lt_of_block (w := w6.drew) ra6)).trans ra6; have rb7 := (g.block _ (lt_of_block (w := w6.drew) rb6)).trans rb6; have rd7 := (g.block _ (lt_of_block (w := w6.drew) rd6)).trans rd6; have rx7 := (g.block _ (lt_of_block (w := w6.drew) rx6)).trans rx6; have ry7 := (g.block _ (lt_of_block (w := w6.drew) ry6)).trans ry6; have rz7 := (g.block _ (lt_of_block (w := w6.drew) rz6)).trans rz6; clear hK K g rc6 ra6 rb6 rd6 rx6 ry6 rz6
  try simp only [Act.put, List.setIfInBounds_toArray, List.set_cons_zero, List.set_cons_succ]
  refine g_take (i := 5) (d := (some 104)) (v := ?_) rfl rfl (by kernel_rfl) (fun _ _ _ h => h) (by rfl) (fun w' hb' => ?_) ?_
  rotate_left
  · (try go_simp); (try with_reducible rfl)
  try simp only [Act.put, List.setIfInBounds_toArray, List.set_cons_zero, List.set_cons_succ]
  refine g_take (i := 6) (d := (some 105)) (v := ?_) rfl rfl (by kernel_rfl) (fun _ _ _ h => h) (by rfl) (fun w' hb' => ?_) ?_
  rotate_left
  · (try go_simp); (try with_reducible rfl)
  try simp only [Act.put, List.setIfInBounds_toArray, List.set_cons_zero, List.set_cons_succ]
  refine g_take (i := 7) (d := (some 106)) (v := ?_) rfl rfl (by kernel_rfl) (fun _ _ _ h => h) (by rfl) (fun w' hb' => ?_) ?_
  rotate_left
  · (try go_simp); (try with_reducible rfl)
  try simp only [Act.put, List.setIfInBounds_toArray, List.set_cons_zero, List.set_cons_succ]
  refine g_take (i := 8) (d := (some 107)) (v := ?_) rfl rfl (by kernel_rfl) (fun _ _ _ h => h) (by rfl) (fun w' hb' => ?_) ?_
  rotate_left
  · (try go_simp); (try with_reducible rfl)
  try simp only [Act.put, List.setIfInBounds_toArray, List.set_cons_zero, List.set_cons_succ]
  refine g_take (i := 9) (d := (some 108)) (v := ?_) rfl rfl (by kernel_rfl) (fun _ _ _ h => h) (by rfl) (fun w' hb' => ?_) ?_
  rotate_left
  · (try go_simp); (try with_reducible rfl)
  try simp only [Act.put, List.setIfInBounds_toArray, List.set_cons_zero, List.set_cons_succ]
  refine g_take (i := 10) (d := (some 109)) (v := ?_) rfl rfl (by kernel_rfl) (fun _ _ _ h => h) (by rfl) (fun w' hb' => ?_) ?_
  rotate_left
  · (try go_simp); (try with_reducible rfl)
  try simp only [Act.put, List.setIfInBounds_toArray, List.set_cons_zero, List.set_cons_succ]
  refine g_take (i := 11) (d := (some 110)) (v := ?_) rfl rfl (by kernel_rfl) (fun _ _ _ h => h) (by rfl) (fun w' hb' => ?_) ?_
  rotate_left
  · have z : w'.heap[w2.heap.size]? = some (.cells #[.int .i64 1099511627776, .int .i64 wt, .int .i64 b, .int .i64 cp, .bool false, .int .i64 0] 23 (0, 0)) := (hb'.block _ (lt_of_block rb7)).trans (rb7); obtain ⟨z0, z1, z2, z3, z4, z5, zf⟩ := block_cells z; (try go_simp); (try with_reducible rfl)
  try simp only [Act.put, List.setIfInBounds_toArray, List.set_cons_zero, List.set_cons_succ]
  refine g_take (i := 12) (d := (some 111)) (v := ?_) rfl rfl (by kernel_rfl) (fun _ _ _ h => h) (by rfl) (fun w' hb' => ?_) ?_
  rotate_left
  · have z : w'.heap[W.heap.size]? = some (.cells #[.int .i64 1099511627776, .int .i64 wt, .int .i64 b, .int .i64 cp, .bool o, .int .i64 d] 23 (0, 0)) := (hb'.block _ (lt_of_block rc7)).trans (rc7); obtain ⟨z0, z1, z2, z3, z4, z5, zf⟩ := block_cells z; (try go_simp); (try with_reducible rfl)
  try simp only [Act.put, List.setIfInBounds_toArray, List.set_cons_zero, List.set_cons_succ]
  refine g_run (i := 13) rfl (by kernel_rfl) (by rfl) (fun K hK => ?_)
  go_simp; refine (R2 _).mono ?_; rintro e w8 ⟨rfl, g⟩; refine hK _ _ ⟨g, ?_⟩; have B := chain (W := W) (by go_grown) g; have sB := B.size; have rc8 := (g.block _ (lt_of_block (w := w7) rc7)).trans rc7; have ra8 := (g.block _ (lt_of_block (w := w7) ra7)).trans ra7; have rb8 := (g.block _ (lt_of_block (w := w7) rb7)).trans rb7; have rd8 := (g.block _ (lt_of_block (w := w7) rd7)).trans rd7; have rx8 := (g.block _ (lt_of_block (w := w7) rx7)).trans rx7; have ry8 := (g.block _ (lt_of_block (w := w7) ry7)).trans ry7; have rz8 := (g.block _ (lt_of_block (w := w7) rz7)).trans rz7; clear hK K g rc7 ra7 rb7 rd7 rx7 ry7 rz7
  try simp only [Act.put, List.setIfInBounds_toArray, List.set_cons_zero, List.set_cons_succ]
  refine g_take (i := 14) (d := (some 113)) (v := ?_) rfl rfl (by kernel_rfl) (fun _ _ _ h => h) (by rfl) (fun w' hb' => ?_) ?_
  rotate_left
  · (try go_simp); (try with_reducible rfl)
  try simp only [Act.put, List.setIfInBounds_toArray, List.set_cons_zero, List.set_cons_succ]
  refine g_take (i := 15) (d := (some 114)) (v := ?_) rfl rfl (by kernel_rfl) (fun _ _ _ h => h) (by rfl) (fun w' hb' => ?_) ?_
  rotate_left
  · (try go_simp); (try with_reducible rfl)
  try simp only [Act.put, List.setIfInBounds_toArray, List.set_cons_zero, List.set_cons_succ]
  refine g_take (i := 16) (d := (some 115)) (v := ?_) rfl rfl (by kernel_rfl) (fun _ _ _ h => h) (by rfl) (fun w' hb' => ?_) ?_
  rotate_left
  · (try go_simp); (try with_reducible rfl)
  try simp only [Act.put, List.setIfInBounds_toArray, List.set_cons_zero, List.set_cons_succ]
  refine g_take (i := 17) (d := (some 116)) (v := ?_) rfl rfl (by kernel_rfl) (fun _ _ _ h => h) (by rfl) (fun w' hb' => ?_) ?_
  rotate_left
  · (try go_simp); (try with_reducible rfl)
  try simp only [Act.put, List.setIfInBounds_toArray, List.set_cons_zero, List.set_cons_succ]
  refine g_take (i := 18) (d := (some 117)) (v := ?_) rfl rfl (by kernel_rfl) (fun _ _ _ h => h) (by rfl) (fun w' hb' => ?_) ?_
  rotate_left
  · (try go_simp); (try with_reducible rfl)
  try simp only [Act.put, List.setIfInBounds_toArray, List.set_cons_zero, List.set_cons_succ]
  refine g_take (i := 19) (d := (some 118)) (v := ?_) rfl rfl (by kernel_rfl) (fun _ _ _ h => h) (by rfl) (fun w' hb' => ?_) ?_
  rotate_left
  · (try go_simp); (try with_reducible rfl)
  try simp only [Act.put, List.setIfInBounds_toArray, List.set_cons_zero, List.set_cons_succ]
  refine g_take (i := 20) (d := (some 119)) (v := ?_) rfl rfl (by kernel_rfl) (fun _ _ _ h => h) (by rfl) (fun w' hb' => ?_) ?_
  rotate_left
  · (try go_simp); (try with_reducible rfl)
  try simp only [Act.put, List.setIfInBounds_toArray, List.set_cons_zero, List.set_cons_succ]
  refine g_take (i := 21) (d := (some 120)) (v := ?_) rfl rfl (by kernel_rfl) (fun _ _ _ h => h) (by rfl) (fun w' hb' => ?_) ?_
  rotate_left
  · have z : w'.heap[w4.heap.size]? = some (.cells #[.int .i64 1099511627776, .int .i64 v2, .int .i64 b, .int .i64 cp, .bool o, .int .i64 d] 23 (0, 0)) := (hb'.block _ (lt_of_block rx8)).trans (rx8); obtain ⟨z0, z1, z2, z3, z4, z5, zf⟩ := block_cells z; (try go_simp); (try with_reducible rfl)
  try simp only [Act.put, List.setIfInBounds_toArray, List.set_cons_zero, List.set_cons_succ]
  refine g_take (i := 22) (d := (some 121)) (v := ?_) rfl rfl (by kernel_rfl) (fun _ _ _ h => h) (by rfl) (fun w' hb' => ?_) ?_
  rotate_left
  · have z : w'.heap[W.heap.size]? = some (.cells #[.int .i64 1099511627776, .int .i64 wt, .int .i64 b, .int .i64 cp, .bool o, .int .i64 d] 23 (0, 0)) := (hb'.block _ (lt_of_block rc8)).trans (rc8); obtain ⟨z0, z1, z2, z3, z4, z5, zf⟩ := block_cells z; (try go_simp); (try with_reducible rfl)
  try simp only [Act.put, List.setIfInBounds_toArray, List.set_cons_zero, List.set_cons_succ]
  refine g_run (i := 23) rfl (by kernel_rfl) (by rfl) (fun K hK => ?_)
  go_simp; refine (R3 _).mono ?_; rintro e w9 ⟨rfl, g⟩; refine hK _ _ ⟨g, ?_⟩; have B := chain (W := W) (by go_grown) g; have sB := B.size; have rc9 := (g.block _ (lt_of_block (w := w8) rc8)).trans rc8; have ra9 := (g.block _ (lt_of_block (w := w8) ra8)).trans ra8; have rb9 := (g.block _ (lt_of_block (w := w8) rb8)).trans rb8; have rd9 := (g.block _ (lt_of_block (w := w8) rd8)).trans rd8; have rx9 := (g.block _ (lt_of_block (w := w8) rx8)).trans rx8; have ry9 := (g.block _ (lt_of_block (w := w8) ry8)).trans ry8; have rz9 := (g.block _ (lt_of_block (w := w8) rz8)).trans rz8; clear hK K g rc8 ra8 rb8 rd8 rx8 ry8 rz8
  try simp only [Act.put, List.setIfInBounds_toArray, List.set_cons_zero, List.set_cons_succ]
  refine g_take (i := 24) (d := (some 123)) (v := ?_) rfl rfl (by kernel_rfl) (fun _ _ _ h => h) (by rfl) (fun w' hb' => ?_) ?_
  rotate_left
  · (try go_simp); (try with_reducible rfl)
  try simp only [Act.put, List.setIfInBounds_toArray, List.set_cons_zero, List.set_cons_succ]
  refine g_take (i := 25) (d := (some 124)) (v := ?_) rfl rfl (by kernel_rfl) (fun _ _ _ h => h) (by rfl) (fun w' hb' => ?_) ?_
  rotate_left
  · (try go_simp); (try with_reducible rfl)
  try simp only [Act.put, List.setIfInBounds_toArray, List.set_cons_zero, List.set_cons_succ]
  refine g_take (i := 26) (d := (some 125)) (v := ?_) rfl rfl (by kernel_rfl) (fun _ _ _ h => h) (by rfl) (fun w' hb' => ?_) ?_
  rotate_left
  · (try go_simp); (try with_reducible rfl)
  try simp only [Act.put, List.setIfInBounds_toArray, List.set_cons_zero, List.set_cons_succ]
  refine g_take (i := 27) (d := (some 126)) (v := ?_) rfl rfl (by kernel_rfl) (fun _ _ _ h => h) (by rfl) (fun w' hb' => ?_) ?_
  rotate_left
  · (try go_simp); (try with_reducible rfl)
  try simp only [Act.put, List.setIfInBounds_toArray, List.set_cons_zero, List.set_cons_succ]
  refine g_take (i := 28) (d := (some 127)) (v := ?_) rfl rfl (by kernel_rfl) (fun _ _ _ h => h) (by rfl) (fun w' hb' => ?_) ?_
  rotate_left
  · (try go_simp); (try with_reducible rfl)
  try simp only [Act.put, List.setIfInBounds_toArray, List.set_cons_zero, List.set_cons_succ]
  refine g_take (i := 29) (d := (some 128)) (v := ?_) rfl rfl (by kernel_rfl) (fun _ _ _ h => h) (by rfl) (fun w' hb' => ?_) ?_
  rotate_left
  · (try go_simp); (try with_reducible rfl)
  try simp only [Act.put, List.setIfInBounds_toArray, List.set_cons_zero, List.set_cons_succ]
  refine g_take (i := 30) (d := (some 129)) (v := ?_) rfl rfl (by kernel_rfl) (fun _ _ _ h => h) (by rfl) (fun w' hb' => ?_) ?_
  rotate_left
  · (try go_simp); (try with_reducible rfl)
  try simp only [Act.put, List.setIfInBounds_toArray, List.set_cons_zero, List.set_cons_succ]
  refine g_take (i := 31) (d := (some 130)) (v := ?_) rfl rfl (by kernel_rfl) (fun _ _ _ h => h) (by rfl) (fun w' hb' => ?_) ?_
  rotate_left
  · have z : w'.heap[w5.heap.size]? = some (.cells #[.int .i64 1099511627776, .int .i64 b, .int .i64 b, .int .i64 cp, .bool o, .int .i64 dz] 23 (0, 0)) := (hb'.block _ (lt_of_block ry9)).trans (ry9); obtain ⟨z0, z1, z2, z3, z4, z5, zf⟩ := block_cells z; (try go_simp); (try with_reducible rfl)
  try simp only [Act.put, List.setIfInBounds_toArray, List.set_cons_zero, List.set_cons_succ]
  refine g_take (i := 32) (d := (some 131)) (v := ?_) rfl rfl (by kernel_rfl) (fun _ _ _ h => h) (by rfl) (fun w' hb' => ?_) ?_
  rotate_left
  · have z : w'.heap[W.heap.size]? = some (.cells #[.int .i64 1099511627776, .int .i64 wt, .int .i64 b, .int .i64 cp, .bool o, .int .i64 d] 23 (0, 0)) := (hb'.block _ (lt_of_block rc9)).trans (rc9); obtain ⟨z0, z1, z2, z3, z4, z5, zf⟩ := block_cells z; (try go_simp); (try with_reducible rfl)
  try simp only [Act.put, List.setIfInBounds_toArray, List.set_cons_zero, List.set_cons_succ]
  refine g_run (i := 33) rfl (by kernel_rfl) (by rfl) (fun K hK => ?_)
  go_simp; refine (R4 _).mono ?_; rintro e w10 ⟨rfl, g⟩; refine hK _ _ ⟨g, ?_⟩; have B := chain (W := W) (by go_grown) g; have sB := B.size; have rc10 := (g.block _ (lt_of_block (w := w9) rc9)).trans rc9; have ra10 := (g.block _ (lt_of_block (w := w9) ra9)).trans ra9; have rb10 := (g.block _ (lt_of_block (w := w9) rb9)).trans rb9; have rd10 := (g.block _ (lt_of_block (w := w9) rd9)).trans rd9; have rx10 := (g.block _ (lt_of_block (w := w9) rx9)).trans rx9; have ry10 := (g.block _ (lt_of_block (w := w9) ry9)).trans ry9; have rz10 := (g.block _ (lt_of_block (w := w9) rz9)).trans rz9; clear hK K g rc9 ra9 rb9 rd9 rx9 ry9 rz9
  try simp only [Act.put, List.setIfInBounds_toArray, List.set_cons_zero, List.set_cons_succ]
  refine g_take (i := 34) (d := (some 133)) (v := ?_) rfl rfl (by kernel_rfl) (fun _ _ _ h => h) (by rfl) (fun w' hb' => ?_) ?_
  rotate_left
  · (try go_simp); (try with_reducible rfl)
  try simp only [Act.put, List.setIfInBounds_toArray, List.set_cons_zero, List.set_cons_succ]
  refine g_take (i := 35) (d := (some 134)) (v := ?_) rfl rfl (by kernel_rfl) (fun _ _ _ h => h) (by rfl) (fun w' hb' => ?_) ?_
  rotate_left
  · (try go_simp); (try with_reducible rfl)
  try simp only [Act.put, List.setIfInBounds_toArray, List.set_cons_zero, List.set_cons_succ]
  refine g_take (i := 36) (d := (some 135)) (v := ?_) rfl rfl (by kernel_rfl) (fun _ _ _ h => h) (by rfl) (fun w' hb' => ?_) ?_
  rotate_left
  · (try go_simp); (try with_reducible rfl)
  try simp only [Act.put, List.setIfInBounds_toArray, List.set_cons_zero, List.set_cons_succ]
  refine g_take (i := 37) (d := (some 136)) (v := ?_) rfl rfl (by kernel_rfl) (fun _ _ _ h => h) (by rfl) (fun w' hb' => ?_) ?_
  rotate_left
  · (try go_simp); (try with_reducible rfl)
  try simp only [Act.put, List.setIfInBounds_toArray, List.set_cons_zero, List.set_cons_succ]
  refine g_take (i := 38) (d := (some 137)) (v := ?_) rfl rfl (by kernel_rfl) (fun _ _ _ h => h) (by rfl) (fun w' hb' => ?_) ?_
  rotate_left
  · (try go_simp); (try with_reducible rfl)
  try simp only [Act.put, List.setIfInBounds_toArray, List.set_cons_zero, List.set_cons_succ]
  refine g_take (i := 39) (d := (some 138)) (v := ?_) rfl rfl (by kernel_rfl) (fun _ _ _ h => h) (by rfl) (fun w' hb' => ?_) ?_
  rotate_left
  · (try go_simp); (try with_reducible rfl)
  try simp only [Act.put, List.setIfInBounds_toArray, List.set_cons_zero, List.set_cons_succ]
  refine g_done (by kernel_rfl) ?_
  have ltc := lt_of_block rc10
  obtain ⟨bc0, bc1, bc2, bc3, bc4, bc5, bfc⟩ := block_cells rc10
  have bfc0 := bfc 0
  have bfc1 := bfc 1
  have bfc2 := bfc 2
  have bfc3 := bfc 3
  have bfc4 := bfc 4
  have bfc5 := bfc 5
  clear bfc
  have ltd := lt_of_block rd10
  obtain ⟨bd0, bd1, bd2, bd3, bd4, bd5, bfd⟩ := block_cells rd10
  have bfd0 := bfd 0
  have bfd1 := bfd 1
  have bfd2 := bfd 2
  have bfd3 := bfd 3
  have bfd4 := bfd 4
  have bfd5 := bfd 5
  clear bfd
  have ltz := lt_of_block rz10
  obtain ⟨bz0, bz1, bz2, bz3, bz4, bz5, bfz⟩ := block_cells rz10
  have bfz0 := bfz 0
  have bfz1 := bfz 1
  have bfz2 := bfz 2
  have bfz3 := bfz 3
  have bfz4 := bfz 4
  have bfz5 := bfz 5
  clear bfz
  go_wp2_with (go_at_call 13; refine (up (awake_any _) (by go_grown : Below W.heap.size W _)).mono ?_; rintro e w9 ⟨rfl, B⟩)
  go_ret
  exact ⟨rfl, by go_grown⟩
set_option maxRecDepth 100000 in
set_option maxHeartbeats 1000000 in
theorem does_yes (wt b cp d n v2 dz p0 p1 p2 p3 p5 : Int) (o p4 rg : Bool) (W : World)
    (hne : (n == 1099511627776) = false)
    (S1 : (∀ w, Calls Try.prog 14 #[.agg #[.int .i64 n, .int .i64 wt, .int .i64 b, .int .i64 cp, .bool o, .int .i64 d]] w fun e w' => e = .returned (.tuple #[.agg #[.int .i64 n, .int .i64 wt, .int .i64 b, .int .i64 cp, .bool true, .int .i64 (n + wt)], .int .i64 0]) ∧ Below w.heap.size w w'))
    (S2 : (∀ w, Calls Try.prog 15 #[.agg #[.int .i64 n, .int .i64 wt, .int .i64 b, .int .i64 cp, .bool o, .int .i64 d]] w fun e w' => e = .returned (.tuple #[.agg #[.int .i64 n, .int .i64 wt, .int .i64 b, .int .i64 cp, .bool false, .int .i64 0], .int .i64 0]) ∧ Below w.heap.size w w'))
    (S3 : (∀ w, Calls Try.prog 16 #[.agg #[.int .i64 n, .int .i64 wt, .int .i64 b, .int .i64 cp, .bool o, .int .i64 d]] w fun e w' => e = .returned (.tuple #[.agg #[.int .i64 p0, .int .i64 p1, .int .i64 p2, .int .i64 p3, .bool p4, .int .i64 p5], .bool rg, .int .i64 0]) ∧ Below w.heap.size w w'))
    (S4 : (∀ w, Calls Try.prog 17 #[.agg #[.int .i64 n, .int .i64 wt, .int .i64 b, .int .i64 cp, .bool o, .int .i64 d]] w fun e w' => e = .returned (.tuple #[.agg #[.int .i64 n, .int .i64 v2, .int .i64 b, .int .i64 cp, .bool o, .int .i64 d], .int .i64 0]) ∧ Below w.heap.size w w'))
    (S5 : (∀ w, Calls Try.prog 18 #[.agg #[.int .i64 n, .int .i64 wt, .int .i64 b, .int .i64 cp, .bool o, .int .i64 d]] w fun e w' => e = .returned (.tuple #[.agg #[.int .i64 n, .int .i64 b, .int .i64 b, .int .i64 cp, .bool o, .int .i64 dz], .int .i64 0]) ∧ Below w.heap.size w w'))
    (S6 : (∀ w, Calls Try.prog 9 #[.agg #[.int .i64 n, .int .i64 wt, .int .i64 b, .int .i64 cp, .bool o, .int .i64 d]] w fun e w' => e = .returned (.bool true) ∧ Below w.heap.size w w'))
    (R1 : (∀ w, Calls Try.prog 19 #[.agg #[.int .i64 n, .int .i64 wt, .int .i64 b, .int .i64 cp, .bool o, .int .i64 d], .int .i64 wt] w fun e w' => e = .returned (.agg #[.int .i64 n, .int .i64 wt, .int .i64 b, .int .i64 cp, .bool true, .int .i64 (n + wt)]) ∧ Below w.heap.size w w'))
    (R2 : (∀ w, Calls Try.prog 19 #[.agg #[.int .i64 n, .int .i64 wt, .int .i64 b, .int .i64 cp, .bool o, .int .i64 d], .int .i64 0] w fun e w' => e = .returned (.agg #[.int .i64 n, .int .i64 wt, .int .i64 b, .int .i64 cp, .bool false, .int .i64 0]) ∧ Below w.heap.size w w'))
    (R3 : (∀ w, Calls Try.prog 20 #[.agg #[.int .i64 n, .int .i64 wt, .int .i64 b, .int .i64 cp, .bool o, .int .i64 d]] w fun e w' => e = .returned (.agg #[.int .i64 n, .int .i64 v2, .int .i64 b, .int .i64 cp, .bool o, .int .i64 d]) ∧ Below w.heap.size w w'))
    (R4 : (∀ w, Calls Try.prog 21 #[.agg #[.int .i64 n, .int .i64 wt, .int .i64 b, .int .i64 cp, .bool o, .int .i64 d]] w fun e w' => e = .returned (.agg #[.int .i64 n, .int .i64 b, .int .i64 b, .int .i64 cp, .bool o, .int .i64 dz]) ∧ Below w.heap.size w w'))
    (R5 : (∀ w, Calls Try.prog 22 #[.agg #[.int .i64 n, .int .i64 wt, .int .i64 b, .int .i64 cp, .bool o, .int .i64 d]] w fun e w' => e = .returned (.tuple #[.agg #[.int .i64 p0, .int .i64 p1, .int .i64 p2, .int .i64 p3, .bool p4, .int .i64 p5], .bool rg]) ∧ Below w.heap.size w w'))
    : Calls Try.prog 4 #[.agg #[.int .i64 n, .int .i64 wt, .int .i64 b, .int .i64 cp, .bool o, .int .i64 d]] W fun e w' => e = .returned (.bool true) ∧ Below W.heap.size W w' := by
  go_enter Try.func4, Try.ntmps4
  go_wp2_with fail
  have B := Below.refl W.heap.size W
  refine (S1 _).mono ?_
  rintro e w1 ⟨rfl, g1⟩
  have sw1 := g1.size
  try simp only [World.size_alloc, World.size_setCell, World.size_drew] at sw1
  have rc1 : w1.heap[W.heap.size]? = some (.cells #[.int .i64 n, .int .i64 wt, .int .i64 b, .int .i64 cp, .bool o, .int .i64 d] 23 (0, 0)) := (g1.block _ (by go_size)).trans (by repeat' (first | (with_reducible assumption) | (with_reducible exact heap_alloc_new _ _) | (with_reducible exact (two_allocs _ _ _).2.1) | (with_reducible apply set6_new; with_reducible assumption) | (with_reducible refine (heap_alloc_old _ _ ?_).trans ?_) | (with_reducible refine (set6_old ?_).trans ?_) | go_size))
  have B := chain (W := W) (by go_grown) g1
  have sB := B.size
  clear g1
  have ltc := lt_of_block rc1
  obtain ⟨bc0, bc1, bc2, bc3, bc4, bc5, bfc⟩ := block_cells rc1
  have bfc0 := bfc 0
  have bfc1 := bfc 1
  have bfc2 := bfc 2
  have bfc3 := bfc 3
  have bfc4 := bfc 4
  have bfc5 := bfc 5
  clear bfc
  go_wp2_with fail
  refine (S2 _).mono ?_
  rintro e w2 ⟨rfl, g2⟩
  clear bc0 bfc0 bc1 bfc1 bc2 bfc2 bc3 bfc3 bc4 bfc4 bc5 bfc5
  have sw2 := g2.size
  try simp only [World.size_alloc, World.size_setCell, World.size_drew] at sw2
  have rc2 : w2.heap[W.heap.size]? = some (.cells #[.int .i64 n, .int .i64 wt, .int .i64 b, .int .i64 cp, .bool o, .int .i64 d] 23 (0, 0)) := (g2.block _ (by go_size)).trans (by repeat' (first | (with_reducible assumption) | (with_reducible exact heap_alloc_new _ _) | (with_reducible exact (two_allocs _ _ _).2.1) | (with_reducible apply set6_new; with_reducible assumption) | (with_reducible refine (heap_alloc_old _ _ ?_).trans ?_) | (with_reducible refine (set6_old ?_).trans ?_) | go_size))
  have ra2 : w2.heap[w1.heap.size]? = some (.cells #[.int .i64 n, .int .i64 wt, .int .i64 b, .int .i64 cp, .bool true, .int .i64 (n + wt)] 23 (0, 0)) := (g2.block _ (by go_size)).trans (by repeat' (first | (with_reducible assumption) | (with_reducible exact heap_alloc_new _ _) | (with_reducible exact (two_allocs _ _ _).2.1) | (with_reducible apply set6_new; with_reducible assumption) | (with_reducible refine (heap_alloc_old _ _ ?_).trans ?_) | (with_reducible refine (set6_old ?_).trans ?_) | go_size))
  have B := chain (W := W) (by go_grown) g2
  have sB := B.size
  clear g2
  clear rc1
  have ltc := lt_of_block rc2
  obtain ⟨bc0, bc1, bc2, bc3, bc4, bc5, bfc⟩ := block_cells rc2
  have bfc0 := bfc 0
  have bfc1 := bfc 1
  have bfc2 := bfc 2
  have bfc3 := bfc 3
  have bfc4 := bfc 4
  have bfc5 := bfc 5
  clear bfc
  go_wp2_with fail
  refine (S3 _).mono ?_
  rintro e w3 ⟨rfl, g3⟩
  clear bc0 bfc0 bc1 bfc1 bc2 bfc2 bc3 bfc3 bc4 bfc4 bc5 bfc5
  have sw3 := g3.size
  try simp only [World.size_alloc, World.size_setCell, World.size_drew] at sw3
  have rc3 : w3.heap[W.heap.size]? = some (.cells #[.int .i64 n, .int .i64 wt, .int .i64 b, .int .i64 cp, .bool o, .int .i64 d] 23 (0, 0)) := (g3.block _ (by go_size)).trans (by repeat' (first | (with_reducible assumption) | (with_reducible exact heap_alloc_new _ _) | (with_reducible exact (two_allocs _ _ _).2.1) | (with_reducible apply set6_new; with_reducible assumption) | (with_reducible refine (heap_alloc_old _ _ ?_).trans ?_) | (with_reducible refine (set6_old ?_).trans ?_) | go_size))
  have ra3 : w3.heap[w1.heap.size]? = some (.cells #[.int .i64 n, .int .i64 wt, .int .i64 b, .int .i64 cp, .bool true, .int .i64 (n + wt)] 23 (0, 0)) := (g3.block _ (by go_size)).trans (by repeat' (first | (with_reducible assumption) | (with_reducible exact heap_alloc_new _ _) | (with_reducible exact (two_allocs _ _ _).2.1) | (with_reducible apply set6_new; with_reducible assumption) | (with_reducible refine (heap_alloc_old _ _ ?_).trans ?_) | (with_reducible refine (set6_old ?_).trans ?_) | go_size))
  have rb3 : w3.heap[w2.heap.size]? = some (.cells #[.int .i64 n, .int .i64 wt, .int .i64 b, .int .i64 cp, .bool false, .int .i64 0] 23 (0, 0)) := (g3.block _ (by go_size)).trans (by repeat' (first | (with_reducible assumption) | (with_reducible exact heap_alloc_new _ _) | (with_reducible exact (two_allocs _ _ _).2.1) | (with_reducible apply set6_new; with_reducible assumption) | (with_reducible refine (heap_alloc_old _ _ ?_).trans ?_) | (with_reducible refine (set6_old ?_).trans ?_) | go_size))
  have B := chain (W := W) (by go_grown) g3
  have sB := B.size
  clear g3
  clear rc2 ra2
  have ltc := lt_of_block rc3
  obtain ⟨bc0, bc1, bc2, bc3, bc4, bc5, bfc⟩ := block_cells rc3
  have bfc0 := bfc 0
  have bfc1 := bfc 1
  have bfc2 := bfc 2
  have bfc3 := bfc 3
  have bfc4 := bfc 4
  have bfc5 := bfc 5
  clear bfc
  go_wp2_with fail
  refine (S4 _).mono ?_
  rintro e w4 ⟨rfl, g4⟩
  clear bc0 bfc0 bc1 bfc1 bc2 bfc2 bc3 bfc3 bc4 bfc4 bc5 bfc5
  have sw4 := g4.size
  try simp only [World.size_alloc, World.size_setCell, World.size_drew] at sw4
  have rc4 : w4.heap[W.heap.size]? = some (.cells #[.int .i64 n, .int .i64 wt, .int .i64 b, .int .i64 cp, .bool o, .int .i64 d] 23 (0, 0)) := (g4.block _ (by go_size)).trans (by repeat' (first | (with_reducible assumption) | (with_reducible exact heap_alloc_new _ _) | (with_reducible exact (two_allocs _ _ _).2.1) | (with_reducible apply set6_new; with_reducible assumption) | (with_reducible refine (heap_alloc_old _ _ ?_).trans ?_) | (with_reducible refine (set6_old ?_).trans ?_) | go_size))
  have ra4 : w4.heap[w1.heap.size]? = some (.cells #[.int .i64 n, .int .i64 wt, .int .i64 b, .int .i64 cp, .bool true, .int .i64 (n + wt)] 23 (0, 0)) := (g4.block _ (by go_size)).trans (by repeat' (first | (with_reducible assumption) | (with_reducible exact heap_alloc_new _ _) | (with_reducible exact (two_allocs _ _ _).2.1) | (with_reducible apply set6_new; with_reducible assumption) | (with_reducible refine (heap_alloc_old _ _ ?_).trans ?_) | (with_reducible refine (set6_old ?_).trans ?_) | go_size))
  have rb4 : w4.heap[w2.heap.size]? = some (.cells #[.int .i64 n, .int .i64 wt, .int .i64 b, .int .i64 cp, .bool false, .int .i64 0] 23 (0, 0)) := (g4.block _ (by go_size)).trans (by repeat' (first | (with_reducible assumption) | (with_reducible exact heap_alloc_new _ _) | (with_reducible exact (two_allocs _ _ _).2.1) | (with_reducible apply set6_new; with_reducible assumption) | (with_reducible refine (heap_alloc_old _ _ ?_).trans ?_) | (with_reducible refine (set6_old ?_).trans ?_) | go_size))
  have rd4 : w4.heap[w3.heap.size]? = some (.cells #[.int .i64 p0, .int .i64 p1, .int .i64 p2, .int .i64 p3, .bool p4, .int .i64 p5] 23 (0, 0)) := (g4.block _ (by go_size)).trans (by repeat' (first | (with_reducible assumption) | (with_reducible exact heap_alloc_new _ _) | (with_reducible exact (two_allocs _ _ _).2.1) | (with_reducible apply set6_new; with_reducible assumption) | (with_reducible refine (heap_alloc_old _ _ ?_).trans ?_) | (with_reducible refine (set6_old ?_).trans ?_) | go_size))
  have B := chain (W := W) (by go_grown) g4
  have sB := B.size
  clear g4
  clear rc3 ra3 rb3
  have ltc := lt_of_block rc4
  obtain ⟨bc0, bc1, bc2, bc3, bc4, bc5, bfc⟩ := block_cells rc4
  have bfc0 := bfc 0
  have bfc1 := bfc 1
  have bfc2 := bfc 2
  have bfc3 := bfc 3
  have bfc4 := bfc 4
  have bfc5 := bfc 5
  clear bfc
  go_wp2_with fail
  refine (S5 _).mono ?_
  rintro e w5 ⟨rfl, g5⟩
  clear bc0 bfc0 bc1 bfc1 bc2 bfc2 bc3 bfc3 bc4 bfc4 bc5 bfc5
  have sw5 := g5.size
  try simp only [World.size_alloc, World.size_setCell, World.size_drew] at sw5
  have rc5 : w5.heap[W.heap.size]? = some (.cells #[.int .i64 n, .int .i64 wt, .int .i64 b, .int .i64 cp, .bool o, .int .i64 d] 23 (0, 0)) := (g5.block _ (by go_size)).trans (by repeat' (first | (with_reducible assumption) | (with_reducible exact heap_alloc_new _ _) | (with_reducible exact (two_allocs _ _ _).2.1) | (with_reducible apply set6_new; with_reducible assumption) | (with_reducible refine (heap_alloc_old _ _ ?_).trans ?_) | (with_reducible refine (set6_old ?_).trans ?_) | go_size))
  have ra5 : w5.heap[w1.heap.size]? = some (.cells #[.int .i64 n, .int .i64 wt, .int .i64 b, .int .i64 cp, .bool true, .int .i64 (n + wt)] 23 (0, 0)) := (g5.block _ (by go_size)).trans (by repeat' (first | (with_reducible assumption) | (with_reducible exact heap_alloc_new _ _) | (with_reducible exact (two_allocs _ _ _).2.1) | (with_reducible apply set6_new; with_reducible assumption) | (with_reducible refine (heap_alloc_old _ _ ?_).trans ?_) | (with_reducible refine (set6_old ?_).trans ?_) | go_size))
  have rb5 : w5.heap[w2.heap.size]? = some (.cells #[.int .i64 n, .int .i64 wt, .int .i64 b, .int .i64 cp, .bool false, .int .i64 0] 23 (0, 0)) := (g5.block _ (by go_size)).trans (by repeat' (first | (with_reducible assumption) | (with_reducible exact heap_alloc_new _ _) | (with_reducible exact (two_allocs _ _ _).2.1) | (with_reducible apply set6_new; with_reducible assumption) | (with_reducible refine (heap_alloc_old _ _ ?_).trans ?_) | (with_reducible refine (set6_old ?_).trans ?_) | go_size))
  have rd5 : w5.heap[w3.heap.size]? = some (.cells #[.int .i64 p0, .int .i64 p1, .int .i64 p2, .int .i64 p3, .bool p4, .int .i64 p5] 23 (0, 0)) := (g5.block _ (by go_size)).trans (by repeat' (first | (with_reducible assumption) | (with_reducible exact heap_alloc_new _ _) | (with_reducible exact (two_allocs _ _ _).2.1) | (with_reducible apply set6_new; with_reducible assumption) | (with_reducible refine (heap_alloc_old _ _ ?_).trans ?_) | (with_reducible refine (set6_old ?_).trans ?_) | go_size))
  have rx5 : w5.heap[w4.heap.size]? = some (.cells #[.int .i64 n, .int .i64 v2, .int .i64 b, .int .i64 cp, .bool o, .int .i64 d] 23 (0, 0)) := (g5.block _ (by go_size)).trans (by repeat' (first | (with_reducible assumption) | (with_reducible exact heap_alloc_new _ _) | (with_reducible exact (two_allocs _ _ _).2.1) | (with_reducible apply set6_new; with_reducible assumption) | (with_reducible refine (heap_alloc_old _ _ ?_).trans ?_) | (with_reducible refine (set6_old ?_).trans ?_) | go_size))
  have B := chain (W := W) (by go_grown) g5
  have sB := B.size
  clear g5
  clear rc4 ra4 rb4 rd4
  have ltc := lt_of_block rc5
  obtain ⟨bc0, bc1, bc2, bc3, bc4, bc5, bfc⟩ := block_cells rc5
  have bfc0 := bfc 0
  have bfc1 := bfc 1
  have bfc2 := bfc 2
  have bfc3 := bfc 3
  have bfc4 := bfc 4
  have bfc5 := bfc 5
  clear bfc
  go_wp2_with fail
  refine (S6 _).mono ?_
  rintro e w6 ⟨rfl, g6⟩
  clear bc0 bfc0 bc1 bfc1 bc2 bfc2 bc3 bfc3 bc4 bfc4 bc5 bfc5
  have sw6 := g6.size
  try simp only [World.size_alloc, World.size_setCell, World.size_drew] at sw6
  have rc6 : w6.heap[W.heap.size]? = some (.cells #[.int .i64 n, .int .i64 wt, .int .i64 b, .int .i64 cp, .bool o, .int .i64 d] 23 (0, 0)) := (g6.block _ (by go_size)).trans (by repeat' (first | (with_reducible assumption) | (with_reducible exact heap_alloc_new _ _) | (with_reducible exact (two_allocs _ _ _).2.1) | (with_reducible apply set6_new; with_reducible assumption) | (with_reducible refine (heap_alloc_old _ _ ?_).trans ?_) | (with_reducible refine (set6_old ?_).trans ?_) | go_size))
  have ra6 : w6.heap[w1.heap.size]? = some (.cells #[.int .i64 n, .int .i64 wt, .int .i64 b, .int .i64 cp, .bool true, .int .i64 (n + wt)] 23 (0, 0)) := (g6.block _ (by go_size)).trans (by repeat' (first | (with_reducible assumption) | (with_reducible exact heap_alloc_new _ _) | (with_reducible exact (two_allocs _ _ _).2.1) | (with_reducible apply set6_new; with_reducible assumption) | (with_reducible refine (heap_alloc_old _ _ ?_).trans ?_) | (with_reducible refine (set6_old ?_).trans ?_) | go_size))
  have rb6 : w6.heap[w2.heap.size]? = some (.cells #[.int .i64 n, .int .i64 wt, .int .i64 b, .int .i64 cp, .bool false, .int .i64 0] 23 (0, 0)) := (g6.block _ (by go_size)).trans (by repeat' (first | (with_reducible assumption) | (with_reducible exact heap_alloc_new _ _) | (with_reducible exact (two_allocs _ _ _).2.1) | (with_reducible apply set6_new; with_reducible assumption) | (with_reducible refine (heap_alloc_old _ _ ?_).trans ?_) | (with_reducible refine (set6_old ?_).trans ?_) | go_size))
  have rd6 : w6.heap[w3.heap.size]? = some (.cells #[.int .i64 p0, .int .i64 p1, .int .i64 p2, .int .i64 p3, .bool p4, .int .i64 p5] 23 (0, 0)) := (g6.block _ (by go_size)).trans (by repeat' (first | (with_reducible assumption) | (with_reducible exact heap_alloc_new _ _) | (with_reducible exact (two_allocs _ _ _).2.1) | (with_reducible apply set6_new; with_reducible assumption) | (with_reducible refine (heap_alloc_old _ _ ?_).trans ?_) | (with_reducible refine (set6_old ?_).trans ?_) | go_size))
  have rx6 : w6.heap[w4.heap.size]? = some (.cells #[.int .i64 n, .int .i64 v2, .int .i64 b, .int .i64 cp, .bool o, .int .i64 d] 23 (0, 0)) := (g6.block _ (by go_size)).trans (by repeat' (first | (with_reducible assumption) | (with_reducible exact heap_alloc_new _ _) | (with_reducible exact (two_allocs _ _ _).2.1) | (with_reducible apply set6_new; with_reducible assumption) | (with_reducible refine (heap_alloc_old _ _ ?_).trans ?_) | (with_reducible refine (set6_old ?_).trans ?_) | go_size))
  have ry6 : w6.heap[w5.heap.size]? = some (.cells #[.int .i64 n, .int .i64 b, .int .i64 b, .int .i64 cp, .bool o, .int .i64 dz] 23 (0, 0)) := (g6.block _ (by go_size)).trans (by repeat' (first | (with_reducible assumption) | (with_reducible exact heap_alloc_new _ _) | (with_reducible exact (two_allocs _ _ _).2.1) | (with_reducible apply set6_new; with_reducible assumption) | (with_reducible refine (heap_alloc_old _ _ ?_).trans ?_) | (with_reducible refine (set6_old ?_).trans ?_) | go_size))
  have rz6 : w6.heap[(w5.heap.size + 1)]? = some (.cells #[.int .i64 0, .int .i64 0, .int .i64 0, .int .i64 0, .bool false, .int .i64 0] 23 (0, 0)) := (g6.block _ (by go_size)).trans (by repeat' (first | (with_reducible assumption) | (with_reducible exact heap_alloc_new _ _) | (with_reducible exact (two_allocs _ _ _).2.1) | (with_reducible apply set6_new; with_reducible assumption) | (with_reducible refine (heap_alloc_old _ _ ?_).trans ?_) | (with_reducible refine (set6_old ?_).trans ?_) | go_size))
  have B := chain (W := W) (by go_grown) g6
  have sB := B.size
  clear g6
  clear rc5 ra5 rb5 rd5 rx5
  have ltc := lt_of_block rc6
  obtain ⟨bc0, bc1, bc2, bc3, bc4, bc5, bfc⟩ := block_cells rc6
  have bfc0 := bfc 0
  have bfc1 := bfc 1
  have bfc2 := bfc 2
  have bfc3 := bfc 3
  have bfc4 := bfc 4
  have bfc5 := bfc 5
  clear bfc
  have lta := lt_of_block ra6
  obtain ⟨ba0, ba1, ba2, ba3, ba4, ba5, bfa⟩ := block_cells ra6
  have bfa0 := bfa 0
  have bfa1 := bfa 1
  have bfa2 := bfa 2
  have bfa3 := bfa 3
  have bfa4 := bfa 4
  have bfa5 := bfa 5
  clear bfa
  have ltb := lt_of_block rb6
  obtain ⟨bb0, bb1, bb2, bb3, bb4, bb5, bfb⟩ := block_cells rb6
  have bfb0 := bfb 0
  have bfb1 := bfb 1
  have bfb2 := bfb 2
  have bfb3 := bfb 3
  have bfb4 := bfb 4
  have bfb5 := bfb 5
  clear bfb
  have ltd := lt_of_block rd6
  obtain ⟨bd0, bd1, bd2, bd3, bd4, bd5, bfd⟩ := block_cells rd6
  have bfd0 := bfd 0
  have bfd1 := bfd 1
  have bfd2 := bfd 2
  have bfd3 := bfd 3
  have bfd4 := bfd 4
  have bfd5 := bfd 5
  clear bfd
  have ltx := lt_of_block rx6
  obtain ⟨bx0, bx1, bx2, bx3, bx4, bx5, bfx⟩ := block_cells rx6
  have bfx0 := bfx 0
  have bfx1 := bfx 1
  have bfx2 := bfx 2
  have bfx3 := bfx 3
  have bfx4 := bfx 4
  have bfx5 := bfx 5
  clear bfx
  have lty := lt_of_block ry6
  obtain ⟨by0, by1, by2, by3, by4, by5, bfy⟩ := block_cells ry6
  have bfy0 := bfy 0
  have bfy1 := bfy 1
  have bfy2 := bfy 2
  have bfy3 := bfy 3
  have bfy4 := bfy 4
  have bfy5 := bfy 5
  clear bfy
  have ltz := lt_of_block rz6
  obtain ⟨bz0, bz1, bz2, bz3, bz4, bz5, bfz⟩ := block_cells rz6
  have bfz0 := bfz 0
  have bfz1 := bfz 1
  have bfz2 := bfz 2
  have bfz3 := bfz 3
  have bfz4 := bfz 4
  have bfz5 := bfz 5
  clear bfz
  go_wp2_with fail
  clear bc0 bfc0 bc1 bfc1 bc2 bfc2 bc3 bfc3 bc4 bfc4 bc5 bfc5 ba0 bfa0 ba1 bfa1 ba2 bfa2 ba3 bfa3 ba4 bfa4 ba5 bfa5 bb0 bfb0 bb1 bfb1 bb2 bfb2 bb3 bfb3 bb4 bfb4 bb5 bfb5 bd0 bfd0 bd1 bfd1 bd2 bfd2 bd3 bfd3 bd4 bfd4 bd5 bfd5 bx0 bfx0 bx1 bfx1 bx2 bfx2 bx3 bfx3 bx4 bfx4 bx5 bfx5 by0 bfy0 by1 bfy1 by2 bfy2 by3 bfy3 by4 bfy4 by5 bfy5 bz0 bfz0 bz1 bfz1 bz2 bfz2 bz3 bfz3 bz4 bfz4 bz5 bfz5
  refine g_start (by kernel_rfl) ?_
  refine g_take (i := 0) (d := (some 99)) (v := ?_) rfl rfl (by kernel_rfl) (fun _ _ _ h => h) (by rfl) (fun w' hb' => ?_) ?_
  rotate_left
  · have z : w'.heap[w1.heap.size]? = some (.cells #[.int .i64 n, .int .i64 wt, .int .i64 b, .int .i64 cp, .bool true, .int .i64 (n + wt)] 23 (0, 0)) := (hb'.block _ (lt_of_block ra6)).trans (ra6); obtain ⟨z0, z1, z2, z3, z4, z5, zf⟩ := block_cells z; (try go_simp); (try with_reducible rfl)
  try simp only [Act.put, List.setIfInBounds_toArray, List.set_cons_zero, List.set_cons_succ]
  refine g_take (i := 1) (d := (some 100)) (v := ?_) rfl rfl (by kernel_rfl) (fun _ _ _ h => h) (by rfl) (fun w' hb' => ?_) ?_
  rotate_left
  · have z : w'.heap[W.heap.size]? = some (.cells #[.int .i64 n, .int .i64 wt, .int .i64 b, .int .i64 cp, .bool o, .int .i64 d] 23 (0, 0)) := (hb'.block _ (lt_of_block rc6)).trans (rc6); obtain ⟨z0, z1, z2, z3, z4, z5, zf⟩ := block_cells z; (try go_simp); (try with_reducible rfl)
  try simp only [Act.put, List.setIfInBounds_toArray, List.set_cons_zero, List.set_cons_succ]
  refine g_take (i := 2) (d := (some 101)) (v := ?_) rfl rfl (by kernel_rfl) (fun _ _ _ h => h) (by rfl) (fun w' hb' => ?_) ?_
  rotate_left
  · (try go_simp); (try with_reducible rfl)
  try simp only [Act.put, List.setIfInBounds_toArray, List.set_cons_zero, List.set_cons_succ]
  refine g_take (i := 3) (d := (some 102)) (v := ?_) rfl rfl (by kernel_rfl) (fun _ _ _ h => h) (by rfl) (fun w' hb' => ?_) ?_
  rotate_left
  · have z : w'.heap[W.heap.size]? = some (.cells #[.int .i64 n, .int .i64 wt, .int .i64 b, .int .i64 cp, .bool o, .int .i64 d] 23 (0, 0)) := (hb'.block _ (lt_of_block rc6)).trans (rc6); obtain ⟨z0, z1, z2, z3, z4, z5, zf⟩ := block_cells z; (try go_simp); (try with_reducible rfl)
  try simp only [Act.put, List.setIfInBounds_toArray, List.set_cons_zero, List.set_cons_succ]
  refine g_run (i := 4) rfl (by kernel_rfl) (by rfl) (fun K hK => ?_)
  go_simp; refine (R1 _).mono ?_; rintro e w7 ⟨rfl, g⟩; refine hK _ _ ⟨g, ?_⟩; have B := chain (W := W) (by go_grown) g; have sB := B.size; have rc7 := (g.block _ (lt_of_block (w := w6.drew) rc6)).trans rc6; have ra7 := (g.block _ (lt_of_block (w := w6.drew) ra6)).trans ra6; have rb7 := (g.block _ (lt_of_block (w := w6.drew) rb6)).trans rb6; have rd7 := (g.block _ (lt_of_block (w := w6.drew) rd6)).trans rd6; have rx7 := (g.block _ (lt_of_block (w := w6.drew) rx6)).trans rx6; have ry7 := (g.block _ (lt_of_block (w := w6.drew) ry6)).trans ry6; have rz7 := (g.block _ (lt_of_block (w := w6.drew) rz6)).trans rz6; clear hK K g rc6 ra6 rb6 rd6 rx6 ry6 rz6
  try simp only [Act.put, List.setIfInBounds_toArray, List.set_cons_zero, List.set_cons_succ]
  refine g_take (i := 5) (d := (some 104)) (v := ?_) rfl rfl (by kernel_rfl) (fun _ _ _ h => h) (by rfl) (fun w' hb' => ?_) ?_
  rotate_left
  · (try go_simp); (try with_reducible rfl)
  try simp only [Act.put, List.setIfInBounds_toArray, List.set_cons_zero, List.set_cons_succ]
  refine g_take (i := 6) (d := (some 105)) (v := ?_) rfl rfl (by kernel_rfl) (fun _ _ _ h => h) (by rfl) (fun w' hb' => ?_) ?_
  rotate_left
  · (try go_simp); (try with_reducible rfl)
  try simp only [Act.put, List.setIfInBounds_toArray, List.set_cons_zero, List.set_cons_succ]
  refine g_take (i := 7) (d := (some 106)) (v := ?_) rfl rfl (by kernel_rfl) (fun _ _ _ h => h) (by rfl) (fun w' hb' => ?_) ?_
  rotate_left
  · (try go_simp); (try with_reducible rfl)
  try simp only [Act.put, List.setIfInBounds_toArray, List.set_cons_zero, List.set_cons_succ]
  refine g_take (i := 8) (d := (some 107)) (v := ?_) rfl rfl (by kernel_rfl) (fun _ _ _ h => h) (by rfl) (fun w' hb' => ?_) ?_
  rotate_left
  · (try go_simp); (try with_reducible rfl)
  try simp only [Act.put, List.setIfInBounds_toArray, List.set_cons_zero, List.set_cons_succ]
  refine g_take (i := 9) (d := (some 108)) (v := ?_) rfl rfl (by kernel_rfl) (fun _ _ _ h => h) (by rfl) (fun w' hb' => ?_) ?_
  rotate_left
  · (try go_simp); (try with_reducible rfl)
  try simp only [Act.put, List.setIfInBounds_toArray, List.set_cons_zero, List.set_cons_succ]
  refine g_take (i := 10) (d := (some 109)) (v := ?_) rfl rfl (by kernel_rfl) (fun _ _ _ h => h) (by rfl) (fun w' hb' => ?_) ?_
  rotate_left
  · (try go_simp); (try with_reducible rfl)
  try simp only [Act.put, List.setIfInBounds_toArray, List.set_cons_zero, List.set_cons_succ]
  refine g_take (i := 11) (d := (some 110)) (v := ?_) rfl rfl (by kernel_rfl) (fun _ _ _ h => h) (by rfl) (fun w' hb' => ?_) ?_
  rotate_left
  · have z : w'.heap[w2.heap.size]? = some (.cells #[.int .i64 n, .int .i64 wt, .int .i64 b, .int .i64 cp, .bool false, .int .i64 0] 23 (0, 0)) := (hb'.block _ (lt_of_block rb7)).trans (rb7); obtain ⟨z0, z1, z2, z3, z4, z5, zf⟩ := block_cells z; (try go_simp); (try with_reducible rfl)
  try simp only [Act.put, List.setIfInBounds_toArray, List.set_cons_zero, List.set_cons_succ]
  refine g_take (i := 12) (d := (some 111)) (v := ?_) rfl rfl (by kernel_rfl) (fun _ _ _ h => h) (by rfl) (fun w' hb' => ?_) ?_
  rotate_left
  · have z : w'.heap[W.heap.size]? = some (.cells #[.int .i64 n, .int .i64 wt, .int .i64 b, .int .i64 cp, .bool o, .int .i64 d] 23 (0, 0)) := (hb'.block _ (lt_of_block rc7)).trans (rc7); obtain ⟨z0, z1, z2, z3, z4, z5, zf⟩ := block_cells z; (try go_simp); (try with_reducible rfl)
  try simp only [Act.put, List.setIfInBounds_toArray, List.set_cons_zero, List.set_cons_succ]
  refine g_run (i := 13) rfl (by kernel_rfl) (by rfl) (fun K hK => ?_)
  go_simp; refine (R2 _).mono ?_; rintro e w8 ⟨rfl, g⟩; refine hK _ _ ⟨g, ?_⟩; have B := chain (W := W) (by go_grown) g; have sB := B.size; have rc8 := (g.block _ (lt_of_block (w := w7) rc7)).trans rc7; have ra8 := (g.block _ (lt_of_block (w := w7) ra7)).trans ra7; have rb8 := (g.block _ (lt_of_block (w := w7) rb7)).trans rb7; have rd8 := (g.block _ (lt_of_block (w := w7) rd7)).trans rd7; have rx8 := (g.block _ (lt_of_block (w := w7) rx7)).trans rx7; have ry8 := (g.block _ (lt_of_block (w := w7) ry7)).trans ry7; have rz8 := (g.block _ (lt_of_block (w := w7) rz7)).trans rz7; clear hK K g rc7 ra7 rb7 rd7 rx7 ry7 rz7
  try simp only [Act.put, List.setIfInBounds_toArray, List.set_cons_zero, List.set_cons_succ]
  refine g_take (i := 14) (d := (some 113)) (v := ?_) rfl rfl (by kernel_rfl) (fun _ _ _ h => h) (by rfl) (fun w' hb' => ?_) ?_
  rotate_left
  · (try go_simp); (try with_reducible rfl)
  try simp only [Act.put, List.setIfInBounds_toArray, List.set_cons_zero, List.set_cons_succ]
  refine g_take (i := 15) (d := (some 114)) (v := ?_) rfl rfl (by kernel_rfl) (fun _ _ _ h => h) (by rfl) (fun w' hb' => ?_) ?_
  rotate_left
  · (try go_simp); (try with_reducible rfl)
  try simp only [Act.put, List.setIfInBounds_toArray, List.set_cons_zero, List.set_cons_succ]
  refine g_take (i := 16) (d := (some 115)) (v := ?_) rfl rfl (by kernel_rfl) (fun _ _ _ h => h) (by rfl) (fun w' hb' => ?_) ?_
  rotate_left
  · (try go_simp); (try with_reducible rfl)
  try simp only [Act.put, List.setIfInBounds_toArray, List.set_cons_zero, List.set_cons_succ]
  refine g_take (i := 17) (d := (some 116)) (v := ?_) rfl rfl (by kernel_rfl) (fun _ _ _ h => h) (by rfl) (fun w' hb' => ?_) ?_
  rotate_left
  · (try go_simp); (try with_reducible rfl)
  try simp only [Act.put, List.setIfInBounds_toArray, List.set_cons_zero, List.set_cons_succ]
  refine g_take (i := 18) (d := (some 117)) (v := ?_) rfl rfl (by kernel_rfl) (fun _ _ _ h => h) (by rfl) (fun w' hb' => ?_) ?_
  rotate_left
  · (try go_simp); (try with_reducible rfl)
  try simp only [Act.put, List.setIfInBounds_toArray, List.set_cons_zero, List.set_cons_succ]
  refine g_take (i := 19) (d := (some 118)) (v := ?_) rfl rfl (by kernel_rfl) (fun _ _ _ h => h) (by rfl) (fun w' hb' => ?_) ?_
  rotate_left
  · (try go_simp); (try with_reducible rfl)
  try simp only [Act.put, List.setIfInBounds_toArray, List.set_cons_zero, List.set_cons_succ]
  refine g_take (i := 20) (d := (some 119)) (v := ?_) rfl rfl (by kernel_rfl) (fun _ _ _ h => h) (by rfl) (fun w' hb' => ?_) ?_
  rotate_left
  · (try go_simp); (try with_reducible rfl)
  try simp only [Act.put, List.setIfInBounds_toArray, List.set_cons_zero, List.set_cons_succ]
  refine g_take (i := 21) (d := (some 120)) (v := ?_) rfl rfl (by kernel_rfl) (fun _ _ _ h => h) (by rfl) (fun w' hb' => ?_) ?_
  rotate_left
  · have z : w'.heap[w4.heap.size]? = some (.cells #[.int .i64 n, .int .i64 v2, .int .i64 b, .int .i64 cp, .bool o, .int .i64 d] 23 (0, 0)) := (hb'.block _ (lt_of_block rx8)).trans (rx8); obtain ⟨z0, z1, z2, z3, z4, z5, zf⟩ := block_cells z; (try go_simp); (try with_reducible rfl)
  try simp only [Act.put, List.setIfInBounds_toArray, List.set_cons_zero, List.set_cons_succ]
  refine g_take (i := 22) (d := (some 121)) (v := ?_) rfl rfl (by kernel_rfl) (fun _ _ _ h => h) (by rfl) (fun w' hb' => ?_) ?_
  rotate_left
  · have z : w'.heap[W.heap.size]? = some (.cells #[.int .i64 n, .int .i64 wt, .int .i64 b, .int .i64 cp, .bool o, .int .i64 d] 23 (0, 0)) := (hb'.block _ (lt_of_block rc8)).trans (rc8); obtain ⟨z0, z1, z2, z3, z4, z5, zf⟩ := block_cells z; (try go_simp); (try with_reducible rfl)
  try simp only [Act.put, List.setIfInBounds_toArray, List.set_cons_zero, List.set_cons_succ]
  refine g_run (i := 23) rfl (by kernel_rfl) (by rfl) (fun K hK => ?_)
  go_simp; refine (R3 _).mono ?_; rintro e w9 ⟨rfl, g⟩; refine hK _ _ ⟨g, ?_⟩; have B := chain (W := W) (by go_grown) g; have sB := B.size; have rc9 := (g.block _ (lt_of_block (w := w8) rc8)).trans rc8; have ra9 := (g.block _ (lt_of_block (w := w8) ra8)).trans ra8; have rb9 := (g.block _ (lt_of_block (w := w8) rb8)).trans rb8; have rd9 := (g.block _ (lt_of_block (w := w8) rd8)).trans rd8; have rx9 := (g.block _ (lt_of_block (w := w8) rx8)).trans rx8; have ry9 := (g.block _ (lt_of_block (w := w8) ry8)).trans ry8; have rz9 := (g.block _ (lt_of_block (w := w8) rz8)).trans rz8; clear hK K g rc8 ra8 rb8 rd8 rx8 ry8 rz8
  try simp only [Act.put, List.setIfInBounds_toArray, List.set_cons_zero, List.set_cons_succ]
  refine g_take (i := 24) (d := (some 123)) (v := ?_) rfl rfl (by kernel_rfl) (fun _ _ _ h => h) (by rfl) (fun w' hb' => ?_) ?_
  rotate_left
  · (try go_simp); (try with_reducible rfl)
  try simp only [Act.put, List.setIfInBounds_toArray, List.set_cons_zero, List.set_cons_succ]
  refine g_take (i := 25) (d := (some 124)) (v := ?_) rfl rfl (by kernel_rfl) (fun _ _ _ h => h) (by rfl) (fun w' hb' => ?_) ?_
  rotate_left
  · (try go_simp); (try with_reducible rfl)
  try simp only [Act.put, List.setIfInBounds_toArray, List.set_cons_zero, List.set_cons_succ]
  refine g_take (i := 26) (d := (some 125)) (v := ?_) rfl rfl (by kernel_rfl) (fun _ _ _ h => h) (by rfl) (fun w' hb' => ?_) ?_
  rotate_left
  · (try go_simp); (try with_reducible rfl)
  try simp only [Act.put, List.setIfInBounds_toArray, List.set_cons_zero, List.set_cons_succ]
  refine g_take (i := 27) (d := (some 126)) (v := ?_) rfl rfl (by kernel_rfl) (fun _ _ _ h => h) (by rfl) (fun w' hb' => ?_) ?_
  rotate_left
  · (try go_simp); (try with_reducible rfl)
  try simp only [Act.put, List.setIfInBounds_toArray, List.set_cons_zero, List.set_cons_succ]
  refine g_take (i := 28) (d := (some 127)) (v := ?_) rfl rfl (by kernel_rfl) (fun _ _ _ h => h) (by rfl) (fun w' hb' => ?_) ?_
  rotate_left
  · (try go_simp); (try with_reducible rfl)
  try simp only [Act.put, List.setIfInBounds_toArray, List.set_cons_zero, List.set_cons_succ]
  refine g_take (i := 29) (d := (some 128)) (v := ?_) rfl rfl (by kernel_rfl) (fun _ _ _ h => h) (by rfl) (fun w' hb' => ?_) ?_
  rotate_left
  · (try go_simp); (try with_reducible rfl)
  try simp only [Act.put, List.setIfInBounds_toArray, List.set_cons_zero, List.set_cons_succ]
  refine g_take (i := 30) (d := (some 129)) (v := ?_) rfl rfl (by kernel_rfl) (fun _ _ _ h => h) (by rfl) (fun w' hb' => ?_) ?_
  rotate_left
  · (try go_simp); (try with_reducible rfl)
  try simp only [Act.put, List.setIfInBounds_toArray, List.set_cons_zero, List.set_cons_succ]
  refine g_take (i := 31) (d := (some 130)) (v := ?_) rfl rfl (by kernel_rfl) (fun _ _ _ h => h) (by rfl) (fun w' hb' => ?_) ?_
  rotate_left
  · have z : w'.heap[w5.heap.size]? = some (.cells #[.int .i64 n, .int .i64 b, .int .i64 b, .int .i64 cp, .bool o, .int .i64 dz] 23 (0, 0)) := (hb'.block _ (lt_of_block ry9)).trans (ry9); obtain ⟨z0, z1, z2, z3, z4, z5, zf⟩ := block_cells z; (try go_simp); (try with_reducible rfl)
  try simp only [Act.put, List.setIfInBounds_toArray, List.set_cons_zero, List.set_cons_succ]
  refine g_take (i := 32) (d := (some 131)) (v := ?_) rfl rfl (by kernel_rfl) (fun _ _ _ h => h) (by rfl) (fun w' hb' => ?_) ?_
  rotate_left
  · have z : w'.heap[W.heap.size]? = some (.cells #[.int .i64 n, .int .i64 wt, .int .i64 b, .int .i64 cp, .bool o, .int .i64 d] 23 (0, 0)) := (hb'.block _ (lt_of_block rc9)).trans (rc9); obtain ⟨z0, z1, z2, z3, z4, z5, zf⟩ := block_cells z; (try go_simp); (try with_reducible rfl)
  try simp only [Act.put, List.setIfInBounds_toArray, List.set_cons_zero, List.set_cons_succ]
  refine g_run (i := 33) rfl (by kernel_rfl) (by rfl) (fun K hK => ?_)
  go_simp; refine (R4 _).mono ?_; rintro e w10 ⟨rfl, g⟩; refine hK _ _ ⟨g, ?_⟩; have B := chain (W := W) (by go_grown) g; have sB := B.size; have rc10 := (g.block _ (lt_of_block (w := w9) rc9)).trans rc9; have ra10 := (g.block _ (lt_of_block (w := w9) ra9)).trans ra9; have rb10 := (g.block _ (lt_of_block (w := w9) rb9)).trans rb9; have rd10 := (g.block _ (lt_of_block (w := w9) rd9)).trans rd9; have rx10 := (g.block _ (lt_of_block (w := w9) rx9)).trans rx9; have ry10 := (g.block _ (lt_of_block (w := w9) ry9)).trans ry9; have rz10 := (g.block _ (lt_of_block (w := w9) rz9)).trans rz9; clear hK K g rc9 ra9 rb9 rd9 rx9 ry9 rz9
  try simp only [Act.put, List.setIfInBounds_toArray, List.set_cons_zero, List.set_cons_succ]
  refine g_take (i := 34) (d := (some 133)) (v := ?_) rfl rfl (by kernel_rfl) (fun _ _ _ h => h) (by rfl) (fun w' hb' => ?_) ?_
  rotate_left
  · (try go_simp); (try with_reducible rfl)
  try simp only [Act.put, List.setIfInBounds_toArray, List.set_cons_zero, List.set_cons_succ]
  refine g_take (i := 35) (d := (some 134)) (v := ?_) rfl rfl (by kernel_rfl) (fun _ _ _ h => h) (by rfl) (fun w' hb' => ?_) ?_
  rotate_left
  · (try go_simp); (try with_reducible rfl)
  try simp only [Act.put, List.setIfInBounds_toArray, List.set_cons_zero, List.set_cons_succ]
  refine g_take (i := 36) (d := (some 135)) (v := ?_) rfl rfl (by kernel_rfl) (fun _ _ _ h => h) (by rfl) (fun w' hb' => ?_) ?_
  rotate_left
  · (try go_simp); (try with_reducible rfl)
  try simp only [Act.put, List.setIfInBounds_toArray, List.set_cons_zero, List.set_cons_succ]
  refine g_take (i := 37) (d := (some 136)) (v := ?_) rfl rfl (by kernel_rfl) (fun _ _ _ h => h) (by rfl) (fun w' hb' => ?_) ?_
  rotate_left
  · (try go_simp); (try with_reducible rfl)
  try simp only [Act.put, List.setIfInBounds_toArray, List.set_cons_zero, List.set_cons_succ]
  refine g_take (i := 38) (d := (some 137)) (v := ?_) rfl rfl (by kernel_rfl) (fun _ _ _ h => h) (by rfl) (fun w' hb' => ?_) ?_
  rotate_left
  · (try go_simp); (try with_reducible rfl)
  try simp only [Act.put, List.setIfInBounds_toArray, List.set_cons_zero, List.set_cons_succ]
  refine g_take (i := 39) (d := (some 138)) (v := ?_) rfl rfl (by kernel_rfl) (fun _ _ _ h => h) (by rfl) (fun w' hb' => ?_) ?_
  rotate_left
  · (try go_simp); (try with_reducible rfl)
  try simp only [Act.put, List.setIfInBounds_toArray, List.set_cons_zero, List.set_cons_succ]
  refine g_done (by kernel_rfl) ?_
  have ltc := lt_of_block rc10
  obtain ⟨bc0, bc1, bc2, bc3, bc4, bc5, bfc⟩ := block_cells rc10
  have bfc0 := bfc 0
  have bfc1 := bfc 1
  have bfc2 := bfc 2
  have bfc3 := bfc 3
  have bfc4 := bfc 4
  have bfc5 := bfc 5
  clear bfc
  have ltd := lt_of_block rd10
  obtain ⟨bd0, bd1, bd2, bd3, bd4, bd5, bfd⟩ := block_cells rd10
  have bfd0 := bfd 0
  have bfd1 := bfd 1
  have bfd2 := bfd 2
  have bfd3 := bfd 3
  have bfd4 := bfd 4
  have bfd5 := bfd 5
  clear bfd
  have ltz := lt_of_block rz10
  obtain ⟨bz0, bz1, bz2, bz3, bz4, bz5, bfz⟩ := block_cells rz10
  have bfz0 := bfz 0
  have bfz1 := bfz 1
  have bfz2 := bfz 2
  have bfz3 := bfz 3
  have bfz4 := bfz 4
  have bfz5 := bfz 5
  clear bfz
  go_wp2_with fail
  refine (R5 _).mono ?_
  rintro e w11 ⟨rfl, g11⟩
  clear bc0 bfc0 bc1 bfc1 bc2 bfc2 bc3 bfc3 bc4 bfc4 bc5 bfc5 bd0 bfd0 bd1 bfd1 bd2 bfd2 bd3 bfd3 bd4 bfd4 bd5 bfd5 bz0 bfz0 bz1 bfz1 bz2 bfz2 bz3 bfz3 bz4 bfz4 bz5 bfz5
  have sw11 := g11.size
  try simp only [World.size_alloc, World.size_setCell, World.size_drew] at sw11
  have rd11 : w11.heap[w3.heap.size]? = some (.cells #[.int .i64 p0, .int .i64 p1, .int .i64 p2, .int .i64 p3, .bool p4, .int .i64 p5] 23 (0, 0)) := (g11.block _ (by go_size)).trans (by repeat' (first | (with_reducible assumption) | (with_reducible exact heap_alloc_new _ _) | (with_reducible exact (two_allocs _ _ _).2.1) | (with_reducible apply set6_new; with_reducible assumption) | (with_reducible refine (heap_alloc_old _ _ ?_).trans ?_) | (with_reducible refine (set6_old ?_).trans ?_) | go_size))
  have B := chain (W := W) (by go_grown) g11
  have sB := B.size
  clear g11
  have ltd := lt_of_block rd11
  obtain ⟨bd0, bd1, bd2, bd3, bd4, bd5, bfd⟩ := block_cells rd11
  have bfd0 := bfd 0
  have bfd1 := bfd 1
  have bfd2 := bfd 2
  have bfd3 := bfd 3
  have bfd4 := bfd 4
  have bfd5 := bfd 5
  clear bfd
  go_wp2_with (go_at_call 13; refine (up (awake_any _) (by go_grown : Below W.heap.size W _)).mono ?_; rintro e w9 ⟨rfl, B⟩)
  go_ret
  exact ⟨rfl, by go_grown⟩
end Go.Proofs.Ytgopmffekhhmjaa
