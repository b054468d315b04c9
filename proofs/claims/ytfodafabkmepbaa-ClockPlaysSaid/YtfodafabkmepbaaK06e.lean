/- The clock's functions for every clock, with the worlds chained; awake. -/
import Derived.Test.YtfodafabkmepbaaK06d
import Derived.Deep.RegionWith
namespace Go.Proofs.Ytfodafabkmepbaa
open Go.RowKit
set_option linter.unusedVariables false
set_option linter.unusedSimpArgs false
theorem up {F : Nat} {args : Array Value} {w W : World} {x : Ending} (h : Calls Try.prog F args w fun e w' => e = x ∧ Below w.heap.size w w') (hb : Below W.heap.size W w) : Calls Try.prog F args w fun e w' => e = x ∧ Below W.heap.size W w' :=
  h.mono fun e w' ⟨a, g⟩ => ⟨a, hb.trans (g.mono hb.size)⟩
theorem aw1 (w : World) : Calls Try.prog 8 #[.int .i64 2, .int .i64 5] w fun e w' => e = .returned (.tuple #[.agg #[.int .i64 0, .int .i64 2, .int .i64 2, .int .i64 5, .bool false, .int .i64 0], .int .i64 0]) ∧ Below w.heap.size w w' :=
  new_yes 2 5 (by decide) w
theorem aw2 (w : World) : Calls Try.prog 14 #[.agg #[.int .i64 0, .int .i64 2, .int .i64 2, .int .i64 5, .bool false, .int .i64 0]] w fun e w' => e = .returned (.tuple #[.agg #[.int .i64 0, .int .i64 2, .int .i64 2, .int .i64 5, .bool true, .int .i64 2], .int .i64 0]) ∧ Below w.heap.size w w' :=
  start_yes ⟨0, 2, 2, 5, false, 0⟩ (by decide) w
theorem aw3 (w : World) : Calls Try.prog 16 #[.agg #[.int .i64 0, .int .i64 2, .int .i64 2, .int .i64 5, .bool true, .int .i64 2]] w fun e w' => e = .returned (.tuple #[.agg #[.int .i64 1, .int .i64 2, .int .i64 2, .int .i64 5, .bool true, .int .i64 2], .bool false, .int .i64 0]) ∧ Below w.heap.size w w' :=
  tick_yes ⟨0, 2, 2, 5, true, 2⟩ (by decide) (by decide) w
theorem aw4 (w : World) : Calls Try.prog 16 #[.agg #[.int .i64 1, .int .i64 2, .int .i64 2, .int .i64 5, .bool true, .int .i64 2]] w fun e w' => e = .returned (.tuple #[.agg #[.int .i64 2, .int .i64 2, .int .i64 2, .int .i64 5, .bool false, .int .i64 0], .bool true, .int .i64 0]) ∧ Below w.heap.size w w' :=
  tick_yes ⟨1, 2, 2, 5, true, 2⟩ (by decide) (by decide) w
theorem aw5 (w : World) : Calls Try.prog 17 #[.agg #[.int .i64 0, .int .i64 2, .int .i64 2, .int .i64 5, .bool false, .int .i64 0]] w fun e w' => e = .returned (.tuple #[.agg #[.int .i64 0, .int .i64 4, .int .i64 2, .int .i64 5, .bool false, .int .i64 0], .int .i64 0]) ∧ Below w.heap.size w w' :=
  double_yes ⟨0, 2, 2, 5, false, 0⟩ (by decide) w
theorem aw6 (w : World) : Calls Try.prog 17 #[.agg #[.int .i64 0, .int .i64 4, .int .i64 2, .int .i64 5, .bool false, .int .i64 0]] w fun e w' => e = .returned (.tuple #[.agg #[.int .i64 0, .int .i64 5, .int .i64 2, .int .i64 5, .bool false, .int .i64 0], .int .i64 0]) ∧ Below w.heap.size w w' :=
  double_yes ⟨0, 4, 2, 5, false, 0⟩ (by decide) w
theorem aw7 (w : World) : Calls Try.prog 14 #[.agg #[.int .i64 0, .int .i64 5, .int .i64 2, .int .i64 5, .bool false, .int .i64 0]] w fun e w' => e = .returned (.tuple #[.agg #[.int .i64 0, .int .i64 5, .int .i64 2, .int .i64 5, .bool true, .int .i64 5], .int .i64 0]) ∧ Below w.heap.size w w' :=
  start_yes ⟨0, 5, 2, 5, false, 0⟩ (by decide) w
theorem aw8 (w : World) : Calls Try.prog 16 #[.agg #[.int .i64 0, .int .i64 5, .int .i64 2, .int .i64 5, .bool true, .int .i64 5]] w fun e w' => e = .returned (.tuple #[.agg #[.int .i64 1, .int .i64 5, .int .i64 2, .int .i64 5, .bool true, .int .i64 5], .bool false, .int .i64 0]) ∧ Below w.heap.size w w' :=
  tick_yes ⟨0, 5, 2, 5, true, 5⟩ (by decide) (by decide) w
theorem aw9 (w : World) : Calls Try.prog 18 #[.agg #[.int .i64 1, .int .i64 5, .int .i64 2, .int .i64 5, .bool true, .int .i64 5]] w fun e w' => e = .returned (.tuple #[.agg #[.int .i64 1, .int .i64 2, .int .i64 2, .int .i64 5, .bool true, .int .i64 3], .int .i64 0]) ∧ Below w.heap.size w w' :=
  reset_yes ⟨1, 5, 2, 5, true, 5⟩ (by decide) w
theorem aw10 (w : World) : Calls Try.prog 12 #[.agg #[.int .i64 1, .int .i64 2, .int .i64 2, .int .i64 5, .bool true, .int .i64 3]] w fun e w' => e = .returned (.int .i64 2) ∧ Below w.heap.size w w' :=
  left_any ⟨1, 2, 2, 5, true, 3⟩ w
theorem chain {W wx w' : World} (B : Below W.heap.size W wx) (g : Below wx.heap.size wx w') : Below W.heap.size W w' := B.trans (g.mono B.size)
set_option maxRecDepth 100000 in
set_option maxHeartbeats 1000000 in
theorem awake_any (W : World) : Calls Try.prog 13 #[] W fun e w' => e = .returned (.bool true) ∧ Below W.heap.size W w' := by
  have B := Below.refl W.heap.size W
  go_enter Try.func13, Try.ntmps13
  go_wp2_with fail
  refine (aw1 _).mono ?_
  rintro e w1 ⟨rfl, g1⟩
  have s1 := g1.size
  try simp only [World.size_alloc, World.size_setCell, World.size_drew] at s1
  have B := chain (W := W) (by go_grown) g1
  have sB := B.size
  clear g1 
  go_wp2_with fail
  refine (aw2 _).mono ?_
  rintro e w2 ⟨rfl, g2⟩
  have s2 := g2.size
  try simp only [World.size_alloc, World.size_setCell, World.size_drew] at s2
  have rc2 : w2.heap[w1.heap.size]? = some (.cells #[.int .i64 0, .int .i64 2, .int .i64 2, .int .i64 5, .bool false, .int .i64 0] 23 (0, 0)) := (g2.block _ (by go_size)).trans (by repeat' (first | (with_reducible assumption) | (with_reducible exact heap_alloc_new _ _) | (with_reducible apply set6_new; with_reducible assumption) | (with_reducible refine (heap_alloc_old _ _ ?_).trans ?_) | (with_reducible refine (set6_old ?_).trans ?_) | go_size))
  have B := chain (W := W) (by go_grown) g2
  have sB := B.size
  clear g2 
  have ltc2 := lt_of_block rc2
  obtain ⟨bc0, bc1, bc2, bc3, bc4, bc5, bfc⟩ := block_cells rc2
  have bfc0 := bfc 0
  have bfc1 := bfc 1
  have bfc2 := bfc 2
  have bfc3 := bfc 3
  have bfc4 := bfc 4
  have bfc5 := bfc 5
  clear bfc
  go_wp2_with fail
  refine (aw3 _).mono ?_
  rintro e w3 ⟨rfl, g3⟩
  have s3 := g3.size
  try simp only [World.size_alloc, World.size_setCell, World.size_drew] at s3
  have rc3 : w3.heap[w1.heap.size]? = some (.cells #[.int .i64 0, .int .i64 2, .int .i64 2, .int .i64 5, .bool false, .int .i64 0] 23 (0, 0)) := (g3.block _ (by go_size)).trans (by repeat' (first | (with_reducible assumption) | (with_reducible exact heap_alloc_new _ _) | (with_reducible apply set6_new; with_reducible assumption) | (with_reducible refine (heap_alloc_old _ _ ?_).trans ?_) | (with_reducible refine (set6_old ?_).trans ?_) | go_size))
  have ra3 : w3.heap[w2.heap.size]? = some (.cells #[.int .i64 0, .int .i64 2, .int .i64 2, .int .i64 5, .bool true, .int .i64 2] 23 (0, 0)) := (g3.block _ (by go_size)).trans (by repeat' (first | (with_reducible assumption) | (with_reducible exact heap_alloc_new _ _) | (with_reducible apply set6_new; with_reducible assumption) | (with_reducible refine (heap_alloc_old _ _ ?_).trans ?_) | (with_reducible refine (set6_old ?_).trans ?_) | go_size))
  have B := chain (W := W) (by go_grown) g3
  have sB := B.size
  clear g3 rc2 bc0 bc1 bc2 bc3 bc4 bc5 bfc0 bfc1 bfc2 bfc3 bfc4 bfc5
  have ltc3 := lt_of_block rc3
  obtain ⟨bc0, bc1, bc2, bc3, bc4, bc5, bfc⟩ := block_cells rc3
  have bfc0 := bfc 0
  have bfc1 := bfc 1
  have bfc2 := bfc 2
  have bfc3 := bfc 3
  have bfc4 := bfc 4
  have bfc5 := bfc 5
  clear bfc
  have lta3 := lt_of_block ra3
  obtain ⟨ba0, ba1, ba2, ba3, ba4, ba5, bfa⟩ := block_cells ra3
  have bfa0 := bfa 0
  have bfa1 := bfa 1
  have bfa2 := bfa 2
  have bfa3 := bfa 3
  have bfa4 := bfa 4
  have bfa5 := bfa 5
  clear bfa
  go_wp2_with fail
  refine (aw4 _).mono ?_
  rintro e w4 ⟨rfl, g4⟩
  have s4 := g4.size
  try simp only [World.size_alloc, World.size_setCell, World.size_drew] at s4
  have rc4 : w4.heap[w1.heap.size]? = some (.cells #[.int .i64 0, .int .i64 2, .int .i64 2, .int .i64 5, .bool false, .int .i64 0] 23 (0, 0)) := (g4.block _ (by go_size)).trans (by repeat' (first | (with_reducible assumption) | (with_reducible exact heap_alloc_new _ _) | (with_reducible apply set6_new; with_reducible assumption) | (with_reducible refine (heap_alloc_old _ _ ?_).trans ?_) | (with_reducible refine (set6_old ?_).trans ?_) | go_size))
  have B := chain (W := W) (by go_grown) g4
  have sB := B.size
  clear g4 rc3 bc0 bc1 bc2 bc3 bc4 bc5 bfc0 bfc1 bfc2 bfc3 bfc4 bfc5 ra3 ba0 ba1 ba2 ba3 ba4 ba5 bfa0 bfa1 bfa2 bfa3 bfa4 bfa5
  have ltc4 := lt_of_block rc4
  obtain ⟨bc0, bc1, bc2, bc3, bc4, bc5, bfc⟩ := block_cells rc4
  have bfc0 := bfc 0
  have bfc1 := bfc 1
  have bfc2 := bfc 2
  have bfc3 := bfc 3
  have bfc4 := bfc 4
  have bfc5 := bfc 5
  clear bfc
  go_wp2_with fail
  refine (aw5 _).mono ?_
  rintro e w5 ⟨rfl, g5⟩
  have s5 := g5.size
  try simp only [World.size_alloc, World.size_setCell, World.size_drew] at s5
  have B := chain (W := W) (by go_grown) g5
  have sB := B.size
  clear g5 rc4 bc0 bc1 bc2 bc3 bc4 bc5 bfc0 bfc1 bfc2 bfc3 bfc4 bfc5
  go_wp2_with fail
  refine (aw6 _).mono ?_
  rintro e w6 ⟨rfl, g6⟩
  have s6 := g6.size
  try simp only [World.size_alloc, World.size_setCell, World.size_drew] at s6
  have rd6 : w6.heap[w5.heap.size]? = some (.cells #[.int .i64 0, .int .i64 4, .int .i64 2, .int .i64 5, .bool false, .int .i64 0] 23 (0, 0)) := (g6.block _ (by go_size)).trans (by repeat' (first | (with_reducible assumption) | (with_reducible exact heap_alloc_new _ _) | (with_reducible apply set6_new; with_reducible assumption) | (with_reducible refine (heap_alloc_old _ _ ?_).trans ?_) | (with_reducible refine (set6_old ?_).trans ?_) | go_size))
  have B := chain (W := W) (by go_grown) g6
  have sB := B.size
  clear g6 
  have ltd6 := lt_of_block rd6
  obtain ⟨bd0, bd1, bd2, bd3, bd4, bd5, bfd⟩ := block_cells rd6
  have bfd0 := bfd 0
  have bfd1 := bfd 1
  have bfd2 := bfd 2
  have bfd3 := bfd 3
  have bfd4 := bfd 4
  have bfd5 := bfd 5
  clear bfd
  go_wp2_with fail
  refine (aw7 _).mono ?_
  rintro e w7 ⟨rfl, g7⟩
  have s7 := g7.size
  try simp only [World.size_alloc, World.size_setCell, World.size_drew] at s7
  have rd7 : w7.heap[w5.heap.size]? = some (.cells #[.int .i64 0, .int .i64 5, .int .i64 2, .int .i64 5, .bool false, .int .i64 0] 23 (0, 0)) := (g7.block _ (by go_size)).trans (by repeat' (first | (with_reducible assumption) | (with_reducible exact heap_alloc_new _ _) | (with_reducible apply set6_new; with_reducible assumption) | (with_reducible refine (heap_alloc_old _ _ ?_).trans ?_) | (with_reducible refine (set6_old ?_).trans ?_) | go_size))
  have B := chain (W := W) (by go_grown) g7
  have sB := B.size
  clear g7 rd6 bd0 bd1 bd2 bd3 bd4 bd5 bfd0 bfd1 bfd2 bfd3 bfd4 bfd5
  have ltd7 := lt_of_block rd7
  obtain ⟨bd0, bd1, bd2, bd3, bd4, bd5, bfd⟩ := block_cells rd7
  have bfd0 := bfd 0
  have bfd1 := bfd 1
  have bfd2 := bfd 2
  have bfd3 := bfd 3
  have bfd4 := bfd 4
  have bfd5 := bfd 5
  clear bfd
  go_wp2_with fail
  refine (aw8 _).mono ?_
  rintro e w8 ⟨rfl, g8⟩
  have s8 := g8.size
  try simp only [World.size_alloc, World.size_setCell, World.size_drew] at s8
  have rd8 : w8.heap[w5.heap.size]? = some (.cells #[.int .i64 0, .int .i64 5, .int .i64 2, .int .i64 5, .bool false, .int .i64 0] 23 (0, 0)) := (g8.block _ (by go_size)).trans (by repeat' (first | (with_reducible assumption) | (with_reducible exact heap_alloc_new _ _) | (with_reducible apply set6_new; with_reducible assumption) | (with_reducible refine (heap_alloc_old _ _ ?_).trans ?_) | (with_reducible refine (set6_old ?_).trans ?_) | go_size))
  have rw8 : w8.heap[w7.heap.size]? = some (.cells #[.int .i64 0, .int .i64 5, .int .i64 2, .int .i64 5, .bool true, .int .i64 5] 23 (0, 0)) := (g8.block _ (by go_size)).trans (by repeat' (first | (with_reducible assumption) | (with_reducible exact heap_alloc_new _ _) | (with_reducible apply set6_new; with_reducible assumption) | (with_reducible refine (heap_alloc_old _ _ ?_).trans ?_) | (with_reducible refine (set6_old ?_).trans ?_) | go_size))
  have B := chain (W := W) (by go_grown) g8
  have sB := B.size
  clear g8 rd7 bd0 bd1 bd2 bd3 bd4 bd5 bfd0 bfd1 bfd2 bfd3 bfd4 bfd5
  have ltd8 := lt_of_block rd8
  obtain ⟨bd0, bd1, bd2, bd3, bd4, bd5, bfd⟩ := block_cells rd8
  have bfd0 := bfd 0
  have bfd1 := bfd 1
  have bfd2 := bfd 2
  have bfd3 := bfd 3
  have bfd4 := bfd 4
  have bfd5 := bfd 5
  clear bfd
  have ltw8 := lt_of_block rw8
  obtain ⟨bw0, bw1, bw2, bw3, bw4, bw5, bfw⟩ := block_cells rw8
  have bfw0 := bfw 0
  have bfw1 := bfw 1
  have bfw2 := bfw 2
  have bfw3 := bfw 3
  have bfw4 := bfw 4
  have bfw5 := bfw 5
  clear bfw
  go_wp2_with fail
  refine (aw9 _).mono ?_
  rintro e w9 ⟨rfl, g9⟩
  have s9 := g9.size
  try simp only [World.size_alloc, World.size_setCell, World.size_drew] at s9
  have rd9 : w9.heap[w5.heap.size]? = some (.cells #[.int .i64 0, .int .i64 5, .int .i64 2, .int .i64 5, .bool false, .int .i64 0] 23 (0, 0)) := (g9.block _ (by go_size)).trans (by repeat' (first | (with_reducible assumption) | (with_reducible exact heap_alloc_new _ _) | (with_reducible apply set6_new; with_reducible assumption) | (with_reducible refine (heap_alloc_old _ _ ?_).trans ?_) | (with_reducible refine (set6_old ?_).trans ?_) | go_size))
  have rw9 : w9.heap[w7.heap.size]? = some (.cells #[.int .i64 1, .int .i64 5, .int .i64 2, .int .i64 5, .bool true, .int .i64 5] 23 (0, 0)) := (g9.block _ (by go_size)).trans (by repeat' (first | (with_reducible assumption) | (with_reducible exact heap_alloc_new _ _) | (with_reducible apply set6_new; with_reducible assumption) | (with_reducible refine (heap_alloc_old _ _ ?_).trans ?_) | (with_reducible refine (set6_old ?_).trans ?_) | go_size))
  have B := chain (W := W) (by go_grown) g9
  have sB := B.size
  clear g9 rd8 bd0 bd1 bd2 bd3 bd4 bd5 bfd0 bfd1 bfd2 bfd3 bfd4 bfd5 rw8 bw0 bw1 bw2 bw3 bw4 bw5 bfw0 bfw1 bfw2 bfw3 bfw4 bfw5
  have ltd9 := lt_of_block rd9
  obtain ⟨bd0, bd1, bd2, bd3, bd4, bd5, bfd⟩ := block_cells rd9
  have bfd0 := bfd 0
  have bfd1 := bfd 1
  have bfd2 := bfd 2
  have bfd3 := bfd 3
  have bfd4 := bfd 4
  have bfd5 := bfd 5
  clear bfd
  have ltw9 := lt_of_block rw9
  obtain ⟨bw0, bw1, bw2, bw3, bw4, bw5, bfw⟩ := block_cells rw9
  have bfw0 := bfw 0
  have bfw1 := bfw 1
  have bfw2 := bfw 2
  have bfw3 := bfw 3
  have bfw4 := bfw 4
  have bfw5 := bfw 5
  clear bfw
  go_wp2_with fail
  refine (aw10 _).mono ?_
  rintro e w10 ⟨rfl, g10⟩
  have s10 := g10.size
  try simp only [World.size_alloc, World.size_setCell, World.size_drew] at s10
  have rd10 : w10.heap[w5.heap.size]? = some (.cells #[.int .i64 0, .int .i64 5, .int .i64 2, .int .i64 5, .bool false, .int .i64 0] 23 (0, 0)) := (g10.block _ (by go_size)).trans (by repeat' (first | (with_reducible assumption) | (with_reducible exact heap_alloc_new _ _) | (with_reducible apply set6_new; with_reducible assumption) | (with_reducible refine (heap_alloc_old _ _ ?_).trans ?_) | (with_reducible refine (set6_old ?_).trans ?_) | go_size))
  have rw10 : w10.heap[w7.heap.size]? = some (.cells #[.int .i64 1, .int .i64 2, .int .i64 2, .int .i64 5, .bool true, .int .i64 3] 23 (0, 0)) := (g10.block _ (by go_size)).trans (by repeat' (first | (with_reducible assumption) | (with_reducible exact heap_alloc_new _ _) | (with_reducible apply set6_new; with_reducible assumption) | (with_reducible refine (heap_alloc_old _ _ ?_).trans ?_) | (with_reducible refine (set6_old ?_).trans ?_) | go_size))
  have B := chain (W := W) (by go_grown) g10
  have sB := B.size
  clear g10 rd9 bd0 bd1 bd2 bd3 bd4 bd5 bfd0 bfd1 bfd2 bfd3 bfd4 bfd5 rw9 bw0 bw1 bw2 bw3 bw4 bw5 bfw0 bfw1 bfw2 bfw3 bfw4 bfw5
  have ltd10 := lt_of_block rd10
  obtain ⟨bd0, bd1, bd2, bd3, bd4, bd5, bfd⟩ := block_cells rd10
  have bfd0 := bfd 0
  have bfd1 := bfd 1
  have bfd2 := bfd 2
  have bfd3 := bfd 3
  have bfd4 := bfd 4
  have bfd5 := bfd 5
  clear bfd
  have ltw10 := lt_of_block rw10
  obtain ⟨bw0, bw1, bw2, bw3, bw4, bw5, bfw⟩ := block_cells rw10
  have bfw0 := bfw 0
  have bfw1 := bfw 1
  have bfw2 := bfw 2
  have bfw3 := bfw 3
  have bfw4 := bfw 4
  have bfw5 := bfw 5
  clear bfw
  go_wp2_with fail
  go_ret
  exact ⟨rfl, by go_grown⟩
end Go.Proofs.Ytfodafabkmepbaa
