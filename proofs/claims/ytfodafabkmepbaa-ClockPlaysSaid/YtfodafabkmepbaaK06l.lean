/- The document's Reset and Tick. Written by wip/tools/gen06l.py. -/
import Derived.Test.YtfodafabkmepbaaK06k
namespace Go.Proofs.Ytfodafabkmepbaa
open Go.RowKit
set_option linter.unusedVariables false
set_option linter.unusedSimpArgs false
theorem set_at {w : World} {B i : Nat} {cs : Array Value} {t : TypeId} {u : Value} (h : w.heap[B]? = some (.cells cs t (0, 0))) : (w.setCell ⟨B, i, none⟩ u).heap[B]? = some (.cells (cs.setIfInBounds i u) t (0, 0)) := by
  simpa using (holds_set h i u).1
set_option maxRecDepth 100000 in
set_option maxHeartbeats 1000000 in
theorem rreset_off (n wt b cp d : Int) (w : World) (m5 : 0 ≤ n) (m6 : n ≤ 1099511627776) (b1 : 1 ≤ b) (b2 : b ≤ 1048576) 
    (L : (∀ w, Calls Try.prog 10 #[.agg #[.int .i64 n, .int .i64 wt, .int .i64 b, .int .i64 cp, .bool false, .int .i64 0]] w fun e w' => e = .returned (.int .i64 0) ∧ Below w.heap.size w w'))
    (A : (∀ w, Calls Try.prog 19 #[.agg #[.int .i64 n, .int .i64 b, .int .i64 b, .int .i64 cp, .bool false, .int .i64 0], .int .i64 0] w fun e w' => e = .returned (.agg #[.int .i64 n, .int .i64 b, .int .i64 b, .int .i64 cp, .bool false, .int .i64 0]) ∧ Below w.heap.size w w'))
    : Calls Try.prog 21 #[.agg #[.int .i64 n, .int .i64 wt, .int .i64 b, .int .i64 cp, .bool false, .int .i64 0]] w fun e w' => e = .returned (.agg #[.int .i64 n, .int .i64 b, .int .i64 b, .int .i64 cp, .bool false, .int .i64 0]) ∧ Below w.heap.size w w' := by
  go_enter Try.func21, Try.ntmps21
  go_wp2_with fail
  have B := Below.refl w.heap.size w
  refine (L _).mono ?_
  rintro e w1 ⟨rfl, g1⟩
  have sw1 := g1.size
  try simp only [World.size_alloc, World.size_setCell, World.size_drew] at sw1
  have rc : w1.heap[w.heap.size]? = some (.cells #[.int .i64 n, .int .i64 wt, .int .i64 b, .int .i64 cp, .bool false, .int .i64 0] 23 (0, 0)) := (g1.block _ (by go_size)).trans (by repeat' (first | (with_reducible assumption) | (with_reducible exact heap_alloc_new _ _) | (with_reducible exact (two_allocs _ _ _).2.1) | (with_reducible exact (two_allocs _ _ _).1) | (with_reducible apply set6_new; with_reducible assumption) | (with_reducible refine (heap_alloc_old _ _ ?_).trans ?_) | (with_reducible refine (set6_old ?_).trans ?_) | (with_reducible refine (set_old ?_).trans ?_) | go_size))
  have rr : w1.heap[(w.heap.size + 1)]? = some (.cells #[.int .i64 0, .int .i64 0, .int .i64 0, .int .i64 0, .bool false, .int .i64 0] 23 (0, 0)) := (g1.block _ (by go_size)).trans (by repeat' (first | (with_reducible assumption) | (with_reducible exact heap_alloc_new _ _) | (with_reducible exact (two_allocs _ _ _).2.1) | (with_reducible exact (two_allocs _ _ _).1) | (with_reducible apply set6_new; with_reducible assumption) | (with_reducible refine (heap_alloc_old _ _ ?_).trans ?_) | (with_reducible refine (set6_old ?_).trans ?_) | (with_reducible refine (set_old ?_).trans ?_) | go_size))
  have B := chain (W := w) (by go_grown) g1
  have sB := B.size
  clear g1
  have ltc := lt_of_block rc
  obtain ⟨bc0, bc1, bc2, bc3, bc4, bc5, bfc⟩ := block_cells rc
  have bfc0 := bfc 0
  have bfc1 := bfc 1
  have bfc2 := bfc 2
  have bfc3 := bfc 3
  have bfc4 := bfc 4
  have bfc5 := bfc 5
  clear bfc
  go_wp2_with fail
  refine (A _).mono ?_
  rintro e w2 ⟨rfl, g2⟩
  clear bc0 bc1 bc2 bc3 bc4 bc5 bfc0 bfc1 bfc2 bfc3 bfc4 bfc5
  have sw2 := g2.size
  try simp only [World.size_alloc, World.size_setCell, World.size_drew] at sw2
  have rq : w2.heap[(w.heap.size + 1)]? = some (.cells #[.int .i64 0, .int .i64 0, .int .i64 0, .int .i64 0, .bool false, .int .i64 0] 23 (0, 0)) := (g2.block _ (by go_size)).trans (by repeat' (first | (with_reducible assumption) | (with_reducible exact heap_alloc_new _ _) | (with_reducible exact (two_allocs _ _ _).2.1) | (with_reducible exact (two_allocs _ _ _).1) | (with_reducible apply set6_new; with_reducible assumption) | (with_reducible refine (heap_alloc_old _ _ ?_).trans ?_) | (with_reducible refine (set6_old ?_).trans ?_) | (with_reducible refine (set_old ?_).trans ?_) | go_size))
  have B := chain (W := w) (by go_grown) g2
  have sB := B.size
  clear g2
  clear rc rr
  have ltq := lt_of_block rq
  obtain ⟨bq0, bq1, bq2, bq3, bq4, bq5, bfq⟩ := block_cells rq
  have bfq0 := bfq 0
  have bfq1 := bfq 1
  have bfq2 := bfq 2
  have bfq3 := bfq 3
  have bfq4 := bfq 4
  have bfq5 := bfq 5
  clear bfq
  go_wp2_with fail
  obtain ⟨W3, hW3⟩ : ∃ W3, W3 = (((((w2.setCell ⟨w.heap.size + 1, 0, none⟩ (.int .i64 n)).setCell ⟨w.heap.size + 1, 1, none⟩ (.int .i64 b)).setCell ⟨w.heap.size + 1, 2, none⟩ (.int .i64 b)).setCell ⟨w.heap.size + 1, 3, none⟩ (.int .i64 cp)).setCell ⟨w.heap.size + 1, 4, none⟩ (.bool false)).setCell ⟨w.heap.size + 1, 5, none⟩ (.int .i64 0) := ⟨_, rfl⟩
  rw [← hW3]
  have r3 : W3.heap[(w.heap.size + 1)]? = some (.cells #[.int .i64 n, .int .i64 b, .int .i64 b, .int .i64 cp, .bool false, .int .i64 0] 23 (0, 0)) := by rw [hW3]; exact set6_new rq
  have K3 : Below w.heap.size w W3 := by rw [hW3]; exact below_set6 B (by omega)
  obtain ⟨x0, x1, x2, x3, x4, x5, _⟩ := block_cells r3
  clear hW3
  refine bodyPost_ret (v := .agg #[.int .i64 n, .int .i64 b, .int .i64 b, .int .i64 cp, .bool false, .int .i64 0]) (by simp [results, Try.results21, go_sem, x0, x1, x2, x3, x4, x5]) rfl ⟨rfl, K3⟩
set_option maxRecDepth 100000 in
set_option maxHeartbeats 1000000 in
theorem rreset_low (n wt b cp d : Int) (w : World) (m5 : 0 ≤ n) (m6 : n ≤ 1099511627776) (b1 : 1 ≤ b) (b2 : b ≤ 1048576) (h1 : 0 < d - n) (h2 : d - n ≤ b)
    (L : (∀ w, Calls Try.prog 10 #[.agg #[.int .i64 n, .int .i64 wt, .int .i64 b, .int .i64 cp, .bool true, .int .i64 d]] w fun e w' => e = .returned (.int .i64 (d - n)) ∧ Below w.heap.size w w'))
    (A : (∀ w, Calls Try.prog 19 #[.agg #[.int .i64 n, .int .i64 b, .int .i64 b, .int .i64 cp, .bool true, .int .i64 d], .int .i64 (d - n)] w fun e w' => e = .returned (.agg #[.int .i64 n, .int .i64 b, .int .i64 b, .int .i64 cp, .bool true, .int .i64 d]) ∧ Below w.heap.size w w'))
    : Calls Try.prog 21 #[.agg #[.int .i64 n, .int .i64 wt, .int .i64 b, .int .i64 cp, .bool true, .int .i64 d]] w fun e w' => e = .returned (.agg #[.int .i64 n, .int .i64 b, .int .i64 b, .int .i64 cp, .bool true, .int .i64 d]) ∧ Below w.heap.size w w' := by
  go_enter Try.func21, Try.ntmps21
  go_wp2_with fail
  have B := Below.refl w.heap.size w
  refine (L _).mono ?_
  rintro e w1 ⟨rfl, g1⟩
  have sw1 := g1.size
  try simp only [World.size_alloc, World.size_setCell, World.size_drew] at sw1
  have rc : w1.heap[w.heap.size]? = some (.cells #[.int .i64 n, .int .i64 wt, .int .i64 b, .int .i64 cp, .bool true, .int .i64 d] 23 (0, 0)) := (g1.block _ (by go_size)).trans (by repeat' (first | (with_reducible assumption) | (with_reducible exact heap_alloc_new _ _) | (with_reducible exact (two_allocs _ _ _).2.1) | (with_reducible exact (two_allocs _ _ _).1) | (with_reducible apply set6_new; with_reducible assumption) | (with_reducible refine (heap_alloc_old _ _ ?_).trans ?_) | (with_reducible refine (set6_old ?_).trans ?_) | (with_reducible refine (set_old ?_).trans ?_) | go_size))
  have rr : w1.heap[(w.heap.size + 1)]? = some (.cells #[.int .i64 0, .int .i64 0, .int .i64 0, .int .i64 0, .bool false, .int .i64 0] 23 (0, 0)) := (g1.block _ (by go_size)).trans (by repeat' (first | (with_reducible assumption) | (with_reducible exact heap_alloc_new _ _) | (with_reducible exact (two_allocs _ _ _).2.1) | (with_reducible exact (two_allocs _ _ _).1) | (with_reducible apply set6_new; with_reducible assumption) | (with_reducible refine (heap_alloc_old _ _ ?_).trans ?_) | (with_reducible refine (set6_old ?_).trans ?_) | (with_reducible refine (set_old ?_).trans ?_) | go_size))
  have B := chain (W := w) (by go_grown) g1
  have sB := B.size
  clear g1
  have ltc := lt_of_block rc
  obtain ⟨bc0, bc1, bc2, bc3, bc4, bc5, bfc⟩ := block_cells rc
  have bfc0 := bfc 0
  have bfc1 := bfc 1
  have bfc2 := bfc 2
  have bfc3 := bfc 3
  have bfc4 := bfc 4
  have bfc5 := bfc 5
  clear bfc
  go_wp2_with fail
  refine (A _).mono ?_
  rintro e w2 ⟨rfl, g2⟩
  clear bc0 bc1 bc2 bc3 bc4 bc5 bfc0 bfc1 bfc2 bfc3 bfc4 bfc5
  have sw2 := g2.size
  try simp only [World.size_alloc, World.size_setCell, World.size_drew] at sw2
  have rq : w2.heap[(w.heap.size + 1)]? = some (.cells #[.int .i64 0, .int .i64 0, .int .i64 0, .int .i64 0, .bool false, .int .i64 0] 23 (0, 0)) := (g2.block _ (by go_size)).trans (by repeat' (first | (with_reducible assumption) | (with_reducible exact heap_alloc_new _ _) | (with_reducible exact (two_allocs _ _ _).2.1) | (with_reducible exact (two_allocs _ _ _).1) | (with_reducible apply set6_new; with_reducible assumption) | (with_reducible refine (heap_alloc_old _ _ ?_).trans ?_) | (with_reducible refine (set6_old ?_).trans ?_) | (with_reducible refine (set_old ?_).trans ?_) | go_size))
  have B := chain (W := w) (by go_grown) g2
  have sB := B.size
  clear g2
  clear rc rr
  have ltq := lt_of_block rq
  obtain ⟨bq0, bq1, bq2, bq3, bq4, bq5, bfq⟩ := block_cells rq
  have bfq0 := bfq 0
  have bfq1 := bfq 1
  have bfq2 := bfq 2
  have bfq3 := bfq 3
  have bfq4 := bfq 4
  have bfq5 := bfq 5
  clear bfq
  go_wp2_with fail
  obtain ⟨W3, hW3⟩ : ∃ W3, W3 = (((((w2.setCell ⟨w.heap.size + 1, 0, none⟩ (.int .i64 n)).setCell ⟨w.heap.size + 1, 1, none⟩ (.int .i64 b)).setCell ⟨w.heap.size + 1, 2, none⟩ (.int .i64 b)).setCell ⟨w.heap.size + 1, 3, none⟩ (.int .i64 cp)).setCell ⟨w.heap.size + 1, 4, none⟩ (.bool true)).setCell ⟨w.heap.size + 1, 5, none⟩ (.int .i64 d) := ⟨_, rfl⟩
  rw [← hW3]
  have r3 : W3.heap[(w.heap.size + 1)]? = some (.cells #[.int .i64 n, .int .i64 b, .int .i64 b, .int .i64 cp, .bool true, .int .i64 d] 23 (0, 0)) := by rw [hW3]; exact set6_new rq
  have K3 : Below w.heap.size w W3 := by rw [hW3]; exact below_set6 B (by omega)
  obtain ⟨x0, x1, x2, x3, x4, x5, _⟩ := block_cells r3
  clear hW3
  refine bodyPost_ret (v := .agg #[.int .i64 n, .int .i64 b, .int .i64 b, .int .i64 cp, .bool true, .int .i64 d]) (by simp [results, Try.results21, go_sem, x0, x1, x2, x3, x4, x5]) rfl ⟨rfl, K3⟩
set_option maxRecDepth 100000 in
set_option maxHeartbeats 1000000 in
theorem rreset_high (n wt b cp d : Int) (w : World) (m5 : 0 ≤ n) (m6 : n ≤ 1099511627776) (b1 : 1 ≤ b) (b2 : b ≤ 1048576) (h1 : b < d - n)
    (L : (∀ w, Calls Try.prog 10 #[.agg #[.int .i64 n, .int .i64 wt, .int .i64 b, .int .i64 cp, .bool true, .int .i64 d]] w fun e w' => e = .returned (.int .i64 (d - n)) ∧ Below w.heap.size w w'))
    (A : (∀ w, Calls Try.prog 19 #[.agg #[.int .i64 n, .int .i64 b, .int .i64 b, .int .i64 cp, .bool true, .int .i64 d], .int .i64 b] w fun e w' => e = .returned (.agg #[.int .i64 n, .int .i64 b, .int .i64 b, .int .i64 cp, .bool true, .int .i64 (n + b)]) ∧ Below w.heap.size w w'))
    : Calls Try.prog 21 #[.agg #[.int .i64 n, .int .i64 wt, .int .i64 b, .int .i64 cp, .bool true, .int .i64 d]] w fun e w' => e = .returned (.agg #[.int .i64 n, .int .i64 b, .int .i64 b, .int .i64 cp, .bool true, .int .i64 (n + b)]) ∧ Below w.heap.size w w' := by
  go_enter Try.func21, Try.ntmps21
  go_wp2_with fail
  have B := Below.refl w.heap.size w
  refine (L _).mono ?_
  rintro e w1 ⟨rfl, g1⟩
  have sw1 := g1.size
  try simp only [World.size_alloc, World.size_setCell, World.size_drew] at sw1
  have rc : w1.heap[w.heap.size]? = some (.cells #[.int .i64 n, .int .i64 wt, .int .i64 b, .int .i64 cp, .bool true, .int .i64 d] 23 (0, 0)) := (g1.block _ (by go_size)).trans (by repeat' (first | (with_reducible assumption) | (with_reducible exact heap_alloc_new _ _) | (with_reducible exact (two_allocs _ _ _).2.1) | (with_reducible exact (two_allocs _ _ _).1) | (with_reducible apply set6_new; with_reducible assumption) | (with_reducible refine (heap_alloc_old _ _ ?_).trans ?_) | (with_reducible refine (set6_old ?_).trans ?_) | (with_reducible refine (set_old ?_).trans ?_) | go_size))
  have rr : w1.heap[(w.heap.size + 1)]? = some (.cells #[.int .i64 0, .int .i64 0, .int .i64 0, .int .i64 0, .bool false, .int .i64 0] 23 (0, 0)) := (g1.block _ (by go_size)).trans (by repeat' (first | (with_reducible assumption) | (with_reducible exact heap_alloc_new _ _) | (with_reducible exact (two_allocs _ _ _).2.1) | (with_reducible exact (two_allocs _ _ _).1) | (with_reducible apply set6_new; with_reducible assumption) | (with_reducible refine (heap_alloc_old _ _ ?_).trans ?_) | (with_reducible refine (set6_old ?_).trans ?_) | (with_reducible refine (set_old ?_).trans ?_) | go_size))
  have B := chain (W := w) (by go_grown) g1
  have sB := B.size
  clear g1
  have ltc := lt_of_block rc
  obtain ⟨bc0, bc1, bc2, bc3, bc4, bc5, bfc⟩ := block_cells rc
  have bfc0 := bfc 0
  have bfc1 := bfc 1
  have bfc2 := bfc 2
  have bfc3 := bfc 3
  have bfc4 := bfc 4
  have bfc5 := bfc 5
  clear bfc
  go_wp2_with fail
  refine (A _).mono ?_
  rintro e w2 ⟨rfl, g2⟩
  clear bc0 bc1 bc2 bc3 bc4 bc5 bfc0 bfc1 bfc2 bfc3 bfc4 bfc5
  have sw2 := g2.size
  try simp only [World.size_alloc, World.size_setCell, World.size_drew] at sw2
  have rq : w2.heap[(w.heap.size + 1)]? = some (.cells #[.int .i64 0, .int .i64 0, .int .i64 0, .int .i64 0, .bool false, .int .i64 0] 23 (0, 0)) := (g2.block _ (by go_size)).trans (by repeat' (first | (with_reducible assumption) | (with_reducible exact heap_alloc_new _ _) | (with_reducible exact (two_allocs _ _ _).2.1) | (with_reducible exact (two_allocs _ _ _).1) | (with_reducible apply set6_new; with_reducible assumption) | (with_reducible refine (heap_alloc_old _ _ ?_).trans ?_) | (with_reducible refine (set6_old ?_).trans ?_) | (with_reducible refine (set_old ?_).trans ?_) | go_size))
  have B := chain (W := w) (by go_grown) g2
  have sB := B.size
  clear g2
  clear rc rr
  have ltq := lt_of_block rq
  obtain ⟨bq0, bq1, bq2, bq3, bq4, bq5, bfq⟩ := block_cells rq
  have bfq0 := bfq 0
  have bfq1 := bfq 1
  have bfq2 := bfq 2
  have bfq3 := bfq 3
  have bfq4 := bfq 4
  have bfq5 := bfq 5
  clear bfq
  go_wp2_with fail
  obtain ⟨W3, hW3⟩ : ∃ W3, W3 = (((((w2.setCell ⟨w.heap.size + 1, 0, none⟩ (.int .i64 n)).setCell ⟨w.heap.size + 1, 1, none⟩ (.int .i64 b)).setCell ⟨w.heap.size + 1, 2, none⟩ (.int .i64 b)).setCell ⟨w.heap.size + 1, 3, none⟩ (.int .i64 cp)).setCell ⟨w.heap.size + 1, 4, none⟩ (.bool true)).setCell ⟨w.heap.size + 1, 5, none⟩ (.int .i64 (n + b)) := ⟨_, rfl⟩
  rw [← hW3]
  have r3 : W3.heap[(w.heap.size + 1)]? = some (.cells #[.int .i64 n, .int .i64 b, .int .i64 b, .int .i64 cp, .bool true, .int .i64 (n + b)] 23 (0, 0)) := by rw [hW3]; exact set6_new rq
  have K3 : Below w.heap.size w W3 := by rw [hW3]; exact below_set6 B (by omega)
  obtain ⟨x0, x1, x2, x3, x4, x5, _⟩ := block_cells r3
  clear hW3
  refine bodyPost_ret (v := .agg #[.int .i64 n, .int .i64 b, .int .i64 b, .int .i64 cp, .bool true, .int .i64 (n + b)]) (by simp [results, Try.results21, go_sem, x0, x1, x2, x3, x4, x5]) rfl ⟨rfl, K3⟩
set_option maxRecDepth 100000 in
set_option maxHeartbeats 1000000 in
theorem rtick_off (n wt b cp d : Int) (w : World) (m5 : 0 ≤ n) (m6 : n < 1099511627776) 
    (L : (∀ w, Calls Try.prog 10 #[.agg #[.int .i64 n, .int .i64 wt, .int .i64 b, .int .i64 cp, .bool false, .int .i64 0]] w fun e w' => e = .returned (.int .i64 0) ∧ Below w.heap.size w w'))
    : Calls Try.prog 22 #[.agg #[.int .i64 n, .int .i64 wt, .int .i64 b, .int .i64 cp, .bool false, .int .i64 0]] w fun e w' => e = .returned (.tuple #[.agg #[.int .i64 (n + 1), .int .i64 wt, .int .i64 b, .int .i64 cp, .bool false, .int .i64 0], .bool false]) ∧ Below w.heap.size w w' := by
  go_enter Try.func22, Try.ntmps22
  go_wp2_with fail
  have B := Below.refl w.heap.size w
  refine (L _).mono ?_
  rintro e w1 ⟨rfl, g1⟩
  have sw1 := g1.size
  try simp only [World.size_alloc, World.size_setCell, World.size_drew] at sw1
  have rc : w1.heap[w.heap.size]? = some (.cells #[.int .i64 n, .int .i64 wt, .int .i64 b, .int .i64 cp, .bool false, .int .i64 0] 23 (0, 0)) := (g1.block _ (by go_size)).trans (by repeat' (first | (with_reducible assumption) | (with_reducible exact heap_alloc_new _ _) | (with_reducible exact (two_allocs _ _ _).2.1) | (with_reducible exact (two_allocs _ _ _).1) | (with_reducible apply set6_new; with_reducible assumption) | (with_reducible refine (heap_alloc_old _ _ ?_).trans ?_) | (with_reducible refine (set6_old ?_).trans ?_) | (with_reducible refine (set_old ?_).trans ?_) | go_size))
  have rr : w1.heap[(w.heap.size + 1)]? = some (.cells #[.int .i64 0, .int .i64 0, .int .i64 0, .int .i64 0, .bool false, .int .i64 0] 23 (0, 0)) := (g1.block _ (by go_size)).trans (by repeat' (first | (with_reducible assumption) | (with_reducible exact heap_alloc_new _ _) | (with_reducible exact (two_allocs _ _ _).2.1) | (with_reducible exact (two_allocs _ _ _).1) | (with_reducible apply set6_new; with_reducible assumption) | (with_reducible refine (heap_alloc_old _ _ ?_).trans ?_) | (with_reducible refine (set6_old ?_).trans ?_) | (with_reducible refine (set_old ?_).trans ?_) | go_size))
  have B := chain (W := w) (by go_grown) g1
  have sB := B.size
  clear g1
  have ltc := lt_of_block rc
  obtain ⟨bc0, bc1, bc2, bc3, bc4, bc5, bfc⟩ := block_cells rc
  have bfc0 := bfc 0
  have bfc1 := bfc 1
  have bfc2 := bfc 2
  have bfc3 := bfc 3
  have bfc4 := bfc 4
  have bfc5 := bfc 5
  clear bfc
  have ltr := lt_of_block rr
  obtain ⟨br0, br1, br2, br3, br4, br5, bfr⟩ := block_cells rr
  have bfr0 := bfr 0
  have bfr1 := bfr 1
  have bfr2 := bfr 2
  have bfr3 := bfr 3
  have bfr4 := bfr 4
  have bfr5 := bfr 5
  clear bfr
  go_wp2_with fail
  obtain ⟨W3, hW3⟩ : ∃ W3, W3 = ((((((w1.setCell ⟨w.heap.size, 0, none⟩ (.int .i64 (n + 1))).setCell ⟨w.heap.size + 1, 0, none⟩ (.int .i64 (n + 1))).setCell ⟨w.heap.size + 1, 1, none⟩ (.int .i64 wt)).setCell ⟨w.heap.size + 1, 2, none⟩ (.int .i64 b)).setCell ⟨w.heap.size + 1, 3, none⟩ (.int .i64 cp)).setCell ⟨w.heap.size + 1, 4, none⟩ (.bool false)).setCell ⟨w.heap.size + 1, 5, none⟩ (.int .i64 0) := ⟨_, rfl⟩
  rw [← hW3]
  have r3 : W3.heap[(w.heap.size + 1)]? = some (.cells #[.int .i64 (n + 1), .int .i64 wt, .int .i64 b, .int .i64 cp, .bool false, .int .i64 0] 23 (0, 0)) := by rw [hW3]; exact set6_new ((set_old (by omega)).trans rr)
  have K3 : Below w.heap.size w W3 := by rw [hW3]; exact below_set6 (below_set B (by omega)) (by omega)
  obtain ⟨x0, x1, x2, x3, x4, x5, _⟩ := block_cells r3
  clear hW3
  refine bodyPost_ret (v := .tuple #[.agg #[.int .i64 (n + 1), .int .i64 wt, .int .i64 b, .int .i64 cp, .bool false, .int .i64 0], .bool false]) (by simp [results, Try.results22, go_sem, x0, x1, x2, x3, x4, x5] <;> omega) rfl ⟨rfl, K3⟩
set_option maxRecDepth 100000 in
set_option maxHeartbeats 1000000 in
theorem rtick_low (n wt b cp d : Int) (w : World) (m5 : 0 ≤ n) (m6 : n < 1099511627776) (h1 : 1 < d - n) (h2 : d - n ≤ 1048576)
    (L : (∀ w, Calls Try.prog 10 #[.agg #[.int .i64 n, .int .i64 wt, .int .i64 b, .int .i64 cp, .bool true, .int .i64 d]] w fun e w' => e = .returned (.int .i64 (d - n)) ∧ Below w.heap.size w w'))
    (A : (∀ w, Calls Try.prog 19 #[.agg #[.int .i64 (n + 1), .int .i64 wt, .int .i64 b, .int .i64 cp, .bool true, .int .i64 d], .int .i64 (d - n - 1)] w fun e w' => e = .returned (.agg #[.int .i64 (n + 1), .int .i64 wt, .int .i64 b, .int .i64 cp, .bool true, .int .i64 d]) ∧ Below w.heap.size w w'))
    : Calls Try.prog 22 #[.agg #[.int .i64 n, .int .i64 wt, .int .i64 b, .int .i64 cp, .bool true, .int .i64 d]] w fun e w' => e = .returned (.tuple #[.agg #[.int .i64 (n + 1), .int .i64 wt, .int .i64 b, .int .i64 cp, .bool true, .int .i64 d], .bool false]) ∧ Below w.heap.size w w' := by
  go_enter Try.func22, Try.ntmps22
  go_wp2_with fail
  have B := Below.refl w.heap.size w
  refine (L _).mono ?_
  rintro e w1 ⟨rfl, g1⟩
  have sw1 := g1.size
  try simp only [World.size_alloc, World.size_setCell, World.size_drew] at sw1
  have rc : w1.heap[w.heap.size]? = some (.cells #[.int .i64 n, .int .i64 wt, .int .i64 b, .int .i64 cp, .bool true, .int .i64 d] 23 (0, 0)) := (g1.block _ (by go_size)).trans (by repeat' (first | (with_reducible assumption) | (with_reducible exact heap_alloc_new _ _) | (with_reducible exact (two_allocs _ _ _).2.1) | (with_reducible exact (two_allocs _ _ _).1) | (with_reducible apply set6_new; with_reducible assumption) | (with_reducible refine (heap_alloc_old _ _ ?_).trans ?_) | (with_reducible refine (set6_old ?_).trans ?_) | (with_reducible refine (set_old ?_).trans ?_) | go_size))
  have rr : w1.heap[(w.heap.size + 1)]? = some (.cells #[.int .i64 0, .int .i64 0, .int .i64 0, .int .i64 0, .bool false, .int .i64 0] 23 (0, 0)) := (g1.block _ (by go_size)).trans (by repeat' (first | (with_reducible assumption) | (with_reducible exact heap_alloc_new _ _) | (with_reducible exact (two_allocs _ _ _).2.1) | (with_reducible exact (two_allocs _ _ _).1) | (with_reducible apply set6_new; with_reducible assumption) | (with_reducible refine (heap_alloc_old _ _ ?_).trans ?_) | (with_reducible refine (set6_old ?_).trans ?_) | (with_reducible refine (set_old ?_).trans ?_) | go_size))
  have B := chain (W := w) (by go_grown) g1
  have sB := B.size
  clear g1
  have ltc := lt_of_block rc
  obtain ⟨bc0, bc1, bc2, bc3, bc4, bc5, bfc⟩ := block_cells rc
  have bfc0 := bfc 0
  have bfc1 := bfc 1
  have bfc2 := bfc 2
  have bfc3 := bfc 3
  have bfc4 := bfc 4
  have bfc5 := bfc 5
  clear bfc
  go_wp2_with fail
  refine (A _).mono ?_
  rintro e w2 ⟨rfl, g2⟩
  clear bc0 bc1 bc2 bc3 bc4 bc5 bfc0 bfc1 bfc2 bfc3 bfc4 bfc5
  have sw2 := g2.size
  try simp only [World.size_alloc, World.size_setCell, World.size_drew] at sw2
  have rq : w2.heap[(w.heap.size + 1)]? = some (.cells #[.int .i64 0, .int .i64 0, .int .i64 0, .int .i64 0, .bool false, .int .i64 0] 23 (0, 0)) := (g2.block _ (by go_size)).trans (by repeat' (first | (with_reducible assumption) | (with_reducible exact heap_alloc_new _ _) | (with_reducible exact (two_allocs _ _ _).2.1) | (with_reducible exact (two_allocs _ _ _).1) | (with_reducible apply set6_new; with_reducible assumption) | (with_reducible refine (heap_alloc_old _ _ ?_).trans ?_) | (with_reducible refine (set6_old ?_).trans ?_) | (with_reducible refine (set_old ?_).trans ?_) | go_size))
  have B := chain (W := w) (by go_grown) g2
  have sB := B.size
  clear g2
  clear rc rr
  have ltq := lt_of_block rq
  obtain ⟨bq0, bq1, bq2, bq3, bq4, bq5, bfq⟩ := block_cells rq
  have bfq0 := bfq 0
  have bfq1 := bfq 1
  have bfq2 := bfq 2
  have bfq3 := bfq 3
  have bfq4 := bfq 4
  have bfq5 := bfq 5
  clear bfq
  go_wp2_with fail
  obtain ⟨W3, hW3⟩ : ∃ W3, W3 = (((((w2.setCell ⟨w.heap.size + 1, 0, none⟩ (.int .i64 (n + 1))).setCell ⟨w.heap.size + 1, 1, none⟩ (.int .i64 wt)).setCell ⟨w.heap.size + 1, 2, none⟩ (.int .i64 b)).setCell ⟨w.heap.size + 1, 3, none⟩ (.int .i64 cp)).setCell ⟨w.heap.size + 1, 4, none⟩ (.bool true)).setCell ⟨w.heap.size + 1, 5, none⟩ (.int .i64 d) := ⟨_, rfl⟩
  rw [← hW3]
  have r3 : W3.heap[(w.heap.size + 1)]? = some (.cells #[.int .i64 (n + 1), .int .i64 wt, .int .i64 b, .int .i64 cp, .bool true, .int .i64 d] 23 (0, 0)) := by rw [hW3]; exact set6_new rq
  have K3 : Below w.heap.size w W3 := by rw [hW3]; exact below_set6 B (by omega)
  obtain ⟨x0, x1, x2, x3, x4, x5, _⟩ := block_cells r3
  clear hW3
  refine bodyPost_ret (v := .tuple #[.agg #[.int .i64 (n + 1), .int .i64 wt, .int .i64 b, .int .i64 cp, .bool true, .int .i64 d], .bool false]) (by simp [results, Try.results22, go_sem, x0, x1, x2, x3, x4, x5] <;> omega) rfl ⟨rfl, K3⟩
set_option maxRecDepth 100000 in
set_option maxHeartbeats 1000000 in
theorem rtick_ring (n wt b cp d : Int) (w : World) (m5 : 0 ≤ n) (m6 : n < 1099511627776) 
    (L : (∀ w, Calls Try.prog 10 #[.agg #[.int .i64 n, .int .i64 wt, .int .i64 b, .int .i64 cp, .bool true, .int .i64 d]] w fun e w' => e = .returned (.int .i64 1) ∧ Below w.heap.size w w'))
    (A : (∀ w, Calls Try.prog 19 #[.agg #[.int .i64 (n + 1), .int .i64 wt, .int .i64 b, .int .i64 cp, .bool true, .int .i64 d], .int .i64 0] w fun e w' => e = .returned (.agg #[.int .i64 (n + 1), .int .i64 wt, .int .i64 b, .int .i64 cp, .bool false, .int .i64 0]) ∧ Below w.heap.size w w'))
    : Calls Try.prog 22 #[.agg #[.int .i64 n, .int .i64 wt, .int .i64 b, .int .i64 cp, .bool true, .int .i64 d]] w fun e w' => e = .returned (.tuple #[.agg #[.int .i64 (n + 1), .int .i64 wt, .int .i64 b, .int .i64 cp, .bool false, .int .i64 0], .bool true]) ∧ Below w.heap.size w w' := by
  go_enter Try.func22, Try.ntmps22
  go_wp2_with fail
  have B := Below.refl w.heap.size w
  refine (L _).mono ?_
  rintro e w1 ⟨rfl, g1⟩
  have sw1 := g1.size
  try simp only [World.size_alloc, World.size_setCell, World.size_drew] at sw1
  have rc : w1.heap[w.heap.size]? = some (.cells #[.int .i64 n, .int .i64 wt, .int .i64 b, .int .i64 cp, .bool true, .int .i64 d] 23 (0, 0)) := (g1.block _ (by go_size)).trans (by repeat' (first | (with_reducible assumption) | (with_reducible exact heap_alloc_new _ _) | (with_reducible exact (two_allocs _ _ _).2.1) | (with_reducible exact (two_allocs _ _ _).1) | (with_reducible apply set6_new; with_reducible assumption) | (with_reducible refine (heap_alloc_old _ _ ?_).trans ?_) | (with_reducible refine (set6_old ?_).trans ?_) | (with_reducible refine (set_old ?_).trans ?_) | go_size))
  have rr : w1.heap[(w.heap.size + 1)]? = some (.cells #[.int .i64 0, .int .i64 0, .int .i64 0, .int .i64 0, .bool false, .int .i64 0] 23 (0, 0)) := (g1.block _ (by go_size)).trans (by repeat' (first | (with_reducible assumption) | (with_reducible exact heap_alloc_new _ _) | (with_reducible exact (two_allocs _ _ _).2.1) | (with_reducible exact (two_allocs _ _ _).1) | (with_reducible apply set6_new; with_reducible assumption) | (with_reducible refine (heap_alloc_old _ _ ?_).trans ?_) | (with_reducible refine (set6_old ?_).trans ?_) | (with_reducible refine (set_old ?_).trans ?_) | go_size))
  have B := chain (W := w) (by go_grown) g1
  have sB := B.size
  clear g1
  have ltc := lt_of_block rc
  obtain ⟨bc0, bc1, bc2, bc3, bc4, bc5, bfc⟩ := block_cells rc
  have bfc0 := bfc 0
  have bfc1 := bfc 1
  have bfc2 := bfc 2
  have bfc3 := bfc 3
  have bfc4 := bfc 4
  have bfc5 := bfc 5
  clear bfc
  go_wp2_with fail
  refine (A _).mono ?_
  rintro e w2 ⟨rfl, g2⟩
  clear bc0 bc1 bc2 bc3 bc4 bc5 bfc0 bfc1 bfc2 bfc3 bfc4 bfc5
  have sw2 := g2.size
  try simp only [World.size_alloc, World.size_setCell, World.size_drew] at sw2
  have rq : w2.heap[(w.heap.size + 1)]? = some (.cells #[.int .i64 0, .int .i64 0, .int .i64 0, .int .i64 0, .bool false, .int .i64 0] 23 (0, 0)) := (g2.block _ (by go_size)).trans (by repeat' (first | (with_reducible assumption) | (with_reducible exact heap_alloc_new _ _) | (with_reducible exact (two_allocs _ _ _).2.1) | (with_reducible exact (two_allocs _ _ _).1) | (with_reducible apply set6_new; with_reducible assumption) | (with_reducible refine (heap_alloc_old _ _ ?_).trans ?_) | (with_reducible refine (set6_old ?_).trans ?_) | (with_reducible refine (set_old ?_).trans ?_) | go_size))
  have B := chain (W := w) (by go_grown) g2
  have sB := B.size
  clear g2
  clear rc rr
  have ltq := lt_of_block rq
  obtain ⟨bq0, bq1, bq2, bq3, bq4, bq5, bfq⟩ := block_cells rq
  have bfq0 := bfq 0
  have bfq1 := bfq 1
  have bfq2 := bfq 2
  have bfq3 := bfq 3
  have bfq4 := bfq 4
  have bfq5 := bfq 5
  clear bfq
  go_wp2_with fail
  obtain ⟨W3, hW3⟩ : ∃ W3, W3 = (((((w2.setCell ⟨w.heap.size + 1, 0, none⟩ (.int .i64 (n + 1))).setCell ⟨w.heap.size + 1, 1, none⟩ (.int .i64 wt)).setCell ⟨w.heap.size + 1, 2, none⟩ (.int .i64 b)).setCell ⟨w.heap.size + 1, 3, none⟩ (.int .i64 cp)).setCell ⟨w.heap.size + 1, 4, none⟩ (.bool false)).setCell ⟨w.heap.size + 1, 5, none⟩ (.int .i64 0) := ⟨_, rfl⟩
  rw [← hW3]
  have r3 : W3.heap[(w.heap.size + 1)]? = some (.cells #[.int .i64 (n + 1), .int .i64 wt, .int .i64 b, .int .i64 cp, .bool false, .int .i64 0] 23 (0, 0)) := by rw [hW3]; exact set6_new rq
  have K3 : Below w.heap.size w W3 := by rw [hW3]; exact below_set6 B (by omega)
  obtain ⟨x0, x1, x2, x3, x4, x5, _⟩ := block_cells r3
  clear hW3
  refine bodyPost_ret (v := .tuple #[.agg #[.int .i64 (n + 1), .int .i64 wt, .int .i64 b, .int .i64 cp, .bool false, .int .i64 0], .bool true]) (by simp [results, Try.results22, go_sem, x0, x1, x2, x3, x4, x5] <;> omega) rfl ⟨rfl, K3⟩
theorem rreset_any (c : Ck) (hm : MayP c) : ∀ w, Calls Try.prog 21 #[ckV c] w fun e w' => e = .returned (ckV { c with wait := c.base, due := if c.on then (if c.now + c.base < c.due then c.now + c.base else c.due) else c.due }) ∧ Below w.heap.size w w' := by
  intro w
  have hm0 := hm
  have L := rleft_any c hm
  have hl : leftC c = if c.on then c.due - c.now else 0 := by unfold leftC; rw [mayC_true hm]; simp
  rw [hl] at L
  obtain ⟨n, wt, b, cp, o, d⟩ := c
  unfold MayP at hm
  simp only [] at hm
  obtain ⟨m1, m2, m3, m4, m5, m6, m7, m8⟩ := hm
  cases o
  · obtain rfl : d = 0 := m8 rfl
    exact rreset_off n wt b cp 0 w m5 m6 m1 (by omega) L (rat_zero m5 m6)
  · obtain ⟨q1, q2⟩ := m7 rfl
    simp only [if_true] at L
    by_cases h : n + b < d
    · have t := rreset_high n wt b cp d w m5 m6 m1 (by omega) (by omega) L (rat_pos m5 m6 (by omega) (by omega))
      simpa [ckV, h] using t
    · have t := rreset_low n wt b cp d w m5 m6 m1 (by omega) (by omega) (by omega) L (by have a := rat_pos (n := n) (wt := b) (b := b) (cp := cp) (o := true) (d := d) (l := d - n) m5 m6 (by omega) (by omega); rw [show n + (d - n) = d from by omega] at a; exact a)
      simpa [ckV, h] using t
theorem rtick_any (c : Ck) (hm : MayP c) (hn : c.now < 1099511627776) : ∀ w, Calls Try.prog 22 #[ckV c] w fun e w' => e = .returned (.tuple #[ckV (tickC c), .bool (ringsC c)]) ∧ Below w.heap.size w w' := by
  intro w
  have L := rleft_any c hm
  have hl : leftC c = if c.on then c.due - c.now else 0 := by unfold leftC; rw [mayC_true hm]; simp
  rw [hl] at L
  obtain ⟨n, wt, b, cp, o, d⟩ := c
  unfold MayP at hm
  simp only [] at hm hn
  obtain ⟨m1, m2, m3, m4, m5, m6, m7, m8⟩ := hm
  cases o
  · obtain rfl : d = 0 := m8 rfl
    have t := rtick_off n wt b cp 0 w m5 hn L
    simpa [ckV, tickC, ringsC] using t
  · obtain ⟨q1, q2⟩ := m7 rfl
    simp only [if_true] at L
    by_cases h : d = n + 1
    · subst h
      rw [show n + 1 - n = 1 from by omega] at L
      have t := rtick_ring n wt b cp (n + 1) w m5 hn L (rat_zero (by omega) (by omega))
      simpa [ckV, tickC, ringsC] using t
    · have t := rtick_low n wt b cp d w m5 hn (by omega) (by omega) L (by have a := rat_pos (n := n + 1) (wt := wt) (b := b) (cp := cp) (o := true) (d := d) (l := d - n - 1) (by omega) (by omega) (by omega) (by omega); rw [show n + 1 + (d - n - 1) = d from by omega] at a; exact a)
      simpa [ckV, tickC, ringsC, h] using t
end Go.Proofs.Ytfodafabkmepbaa
