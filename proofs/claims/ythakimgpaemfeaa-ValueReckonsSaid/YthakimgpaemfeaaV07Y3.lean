/- Values: what two make, by the document. Written by wip/tools/gen7y.py. -/
import Derived.Test.YthakimgpaemfeaaV07Y2
import Derived.Test.YthakimgpaemfeaaV07C
namespace Go.Proofs.Ythakimgpaemfeaa
open Go Go.RowKit
set_option linter.unusedVariables false
set_option linter.unusedSimpArgs false
/-- A number without its sign. -/
def sz (a : Int) : Nat := a.natAbs
theorem size_sz (a : Int) (hf : fits a) (w : World) : Calls Try.prog 43 #[.int .i64 a] w fun e w' => e = .returned (.int .u64 (sz a : Int)) ∧ w' = w :=
  (size_at a (sz a) rfl hf w).mono fun e w' h => ⟨h.1, h.2.symm⟩
theorem sz_le {a : Int} (h : fits a) : sz a ≤ 9223372036854775808 := by unfold sz; have := h.1; have := h.2; omega
set_option maxRecDepth 100000 in
set_option maxHeartbeats 2000000 in
theorem two_err1 (op : Int) (k i : Int) (s : List UInt8) (k' i' : Int) (s' : List UInt8) (w : World)
    (M1 : ∀ w, Calls Try.prog 11 #[.agg #[.int .i64 k, .int .i64 i, .string (str s)]] w fun e w' => e = .returned (.bool false) ∧ Below w.heap.size w w')
 :
    Calls Try.prog 23 #[.int .i64 op, .agg #[.int .i64 k, .int .i64 i, .string (str s)], .agg #[.int .i64 k', .int .i64 i', .string (str s')]] w fun e w' => e = .returned (.tuple #[.agg #[.int .i64 0, .int .i64 0, .string (str [])], .int .i64 1]) ∧ Below w.heap.size w w' := by
  obtain ⟨q1, q2, q3⟩ := three_allocs w (.cells #[.int .i64 k, .int .i64 i, .string (str s)] 23) (.cells #[.int .i64 k', .int .i64 i', .string (str s')] 23) (.cells #[.int .i64 0, .int .i64 0, .string (str [])] 23)
  have bel : Below w.heap.size w (((w.alloc (.cells #[.int .i64 k, .int .i64 i, .string (str s)] 23)).alloc (.cells #[.int .i64 k', .int .i64 i', .string (str s')] 23)).alloc (.cells #[.int .i64 0, .int .i64 0, .string (str [])] 23)) := (((Below.refl _ w).alloc (Nat.le_refl _) _).alloc (by simp) _).alloc (by simp; omega) _
  go_enter Try.func23, Try.ntmps23
  go_wp2_with fail
  refine (M1 _).mono ?_
  rintro e w1 ⟨rfl, g⟩
  replace q1 := (g.block _ (lt_of_block q1)).trans q1
  replace q2 := (g.block _ (lt_of_block q2)).trans q2
  replace q3 := (g.block _ (lt_of_block q3)).trans q3
  replace bel := chain bel g
  clear g
  obtain ⟨q1c0, q1c1, q1c2⟩ := cells3 q1
  have q1l := lt_of_block q1
  obtain ⟨q2c0, q2c1, q2c2⟩ := cells3 q2
  have q2l := lt_of_block q2
  obtain ⟨q3c0, q3c1, q3c2⟩ := cells3 q3
  have q3l := lt_of_block q3
  have fz := frozen3 q3
  go_wp2_with fail
  obtain ⟨r0, r1, r2, bel2⟩ := set3 (.int .i64 0) (.int .i64 0) (.string (str [])) q3 bel (by omega)
  refine bodyPost_ret (v := .tuple #[.agg #[.int .i64 0, .int .i64 0, .string (str [])], .int .i64 1]) (by simp [results, Try.results23, go_sem, r0, r1, r2, str_e]) rfl ⟨rfl, bel2⟩
set_option maxRecDepth 100000 in
set_option maxHeartbeats 2000000 in
theorem two_err2 (op : Int) (k i : Int) (s : List UInt8) (k' i' : Int) (s' : List UInt8) (w : World)
    (M1 : ∀ w, Calls Try.prog 11 #[.agg #[.int .i64 k, .int .i64 i, .string (str s)]] w fun e w' => e = .returned (.bool true) ∧ Below w.heap.size w w')
    (M2 : ∀ w, Calls Try.prog 11 #[.agg #[.int .i64 k', .int .i64 i', .string (str s')]] w fun e w' => e = .returned (.bool false) ∧ Below w.heap.size w w')
 :
    Calls Try.prog 23 #[.int .i64 op, .agg #[.int .i64 k, .int .i64 i, .string (str s)], .agg #[.int .i64 k', .int .i64 i', .string (str s')]] w fun e w' => e = .returned (.tuple #[.agg #[.int .i64 0, .int .i64 0, .string (str [])], .int .i64 1]) ∧ Below w.heap.size w w' := by
  obtain ⟨q1, q2, q3⟩ := three_allocs w (.cells #[.int .i64 k, .int .i64 i, .string (str s)] 23) (.cells #[.int .i64 k', .int .i64 i', .string (str s')] 23) (.cells #[.int .i64 0, .int .i64 0, .string (str [])] 23)
  have bel : Below w.heap.size w (((w.alloc (.cells #[.int .i64 k, .int .i64 i, .string (str s)] 23)).alloc (.cells #[.int .i64 k', .int .i64 i', .string (str s')] 23)).alloc (.cells #[.int .i64 0, .int .i64 0, .string (str [])] 23)) := (((Below.refl _ w).alloc (Nat.le_refl _) _).alloc (by simp) _).alloc (by simp; omega) _
  go_enter Try.func23, Try.ntmps23
  go_wp2_with fail
  refine (M1 _).mono ?_
  rintro e w1 ⟨rfl, g⟩
  replace q1 := (g.block _ (lt_of_block q1)).trans q1
  replace q2 := (g.block _ (lt_of_block q2)).trans q2
  replace q3 := (g.block _ (lt_of_block q3)).trans q3
  replace bel := chain bel g
  clear g
  obtain ⟨q1c0, q1c1, q1c2⟩ := cells3 q1
  have q1l := lt_of_block q1
  obtain ⟨q2c0, q2c1, q2c2⟩ := cells3 q2
  have q2l := lt_of_block q2
  obtain ⟨q3c0, q3c1, q3c2⟩ := cells3 q3
  have q3l := lt_of_block q3
  go_wp2_with fail
  refine (M2 _).mono ?_
  rintro e w1 ⟨rfl, g⟩
  clear q1c0 q1c1 q1c2 q1l
  replace q1 := (g.block _ (lt_of_block q1)).trans q1
  clear q2c0 q2c1 q2c2 q2l
  replace q2 := (g.block _ (lt_of_block q2)).trans q2
  clear q3c0 q3c1 q3c2 q3l
  replace q3 := (g.block _ (lt_of_block q3)).trans q3
  replace bel := chain bel g
  clear g
  obtain ⟨q1c0, q1c1, q1c2⟩ := cells3 q1
  have q1l := lt_of_block q1
  obtain ⟨q2c0, q2c1, q2c2⟩ := cells3 q2
  have q2l := lt_of_block q2
  obtain ⟨q3c0, q3c1, q3c2⟩ := cells3 q3
  have q3l := lt_of_block q3
  have fz := frozen3 q3
  go_wp2_with fail
  obtain ⟨r0, r1, r2, bel2⟩ := set3 (.int .i64 0) (.int .i64 0) (.string (str [])) q3 bel (by omega)
  refine bodyPost_ret (v := .tuple #[.agg #[.int .i64 0, .int .i64 0, .string (str [])], .int .i64 1]) (by simp [results, Try.results23, go_sem, r0, r1, r2, str_e]) rfl ⟨rfl, bel2⟩
set_option maxRecDepth 100000 in
set_option maxHeartbeats 2000000 in
theorem two_err3 (op : Int) (k i : Int) (s : List UInt8) (k' i' : Int) (s' : List UInt8) (w : World)
    (M1 : ∀ w, Calls Try.prog 11 #[.agg #[.int .i64 k, .int .i64 i, .string (str s)]] w fun e w' => e = .returned (.bool true) ∧ Below w.heap.size w w')
    (M2 : ∀ w, Calls Try.prog 11 #[.agg #[.int .i64 k', .int .i64 i', .string (str s')]] w fun e w' => e = .returned (.bool true) ∧ Below w.heap.size w w')
    (hk : (k != 2) = true) :
    Calls Try.prog 23 #[.int .i64 op, .agg #[.int .i64 k, .int .i64 i, .string (str s)], .agg #[.int .i64 k', .int .i64 i', .string (str s')]] w fun e w' => e = .returned (.tuple #[.agg #[.int .i64 0, .int .i64 0, .string (str [])], .int .i64 10]) ∧ Below w.heap.size w w' := by
  obtain ⟨q1, q2, q3⟩ := three_allocs w (.cells #[.int .i64 k, .int .i64 i, .string (str s)] 23) (.cells #[.int .i64 k', .int .i64 i', .string (str s')] 23) (.cells #[.int .i64 0, .int .i64 0, .string (str [])] 23)
  have bel : Below w.heap.size w (((w.alloc (.cells #[.int .i64 k, .int .i64 i, .string (str s)] 23)).alloc (.cells #[.int .i64 k', .int .i64 i', .string (str s')] 23)).alloc (.cells #[.int .i64 0, .int .i64 0, .string (str [])] 23)) := (((Below.refl _ w).alloc (Nat.le_refl _) _).alloc (by simp) _).alloc (by simp; omega) _
  go_enter Try.func23, Try.ntmps23
  go_wp2_with fail
  refine (M1 _).mono ?_
  rintro e w1 ⟨rfl, g⟩
  replace q1 := (g.block _ (lt_of_block q1)).trans q1
  replace q2 := (g.block _ (lt_of_block q2)).trans q2
  replace q3 := (g.block _ (lt_of_block q3)).trans q3
  replace bel := chain bel g
  clear g
  obtain ⟨q1c0, q1c1, q1c2⟩ := cells3 q1
  have q1l := lt_of_block q1
  obtain ⟨q2c0, q2c1, q2c2⟩ := cells3 q2
  have q2l := lt_of_block q2
  obtain ⟨q3c0, q3c1, q3c2⟩ := cells3 q3
  have q3l := lt_of_block q3
  go_wp2_with fail
  refine (M2 _).mono ?_
  rintro e w1 ⟨rfl, g⟩
  clear q1c0 q1c1 q1c2 q1l
  replace q1 := (g.block _ (lt_of_block q1)).trans q1
  clear q2c0 q2c1 q2c2 q2l
  replace q2 := (g.block _ (lt_of_block q2)).trans q2
  clear q3c0 q3c1 q3c2 q3l
  replace q3 := (g.block _ (lt_of_block q3)).trans q3
  replace bel := chain bel g
  clear g
  obtain ⟨q1c0, q1c1, q1c2⟩ := cells3 q1
  have q1l := lt_of_block q1
  obtain ⟨q2c0, q2c1, q2c2⟩ := cells3 q2
  have q2l := lt_of_block q2
  obtain ⟨q3c0, q3c1, q3c2⟩ := cells3 q3
  have q3l := lt_of_block q3
  have fz := frozen3 q3
  go_wp2_with fail
  obtain ⟨r0, r1, r2, bel2⟩ := set3 (.int .i64 0) (.int .i64 0) (.string (str [])) q3 bel (by omega)
  refine bodyPost_ret (v := .tuple #[.agg #[.int .i64 0, .int .i64 0, .string (str [])], .int .i64 10]) (by simp [results, Try.results23, go_sem, r0, r1, r2, str_e]) rfl ⟨rfl, bel2⟩
set_option maxRecDepth 100000 in
set_option maxHeartbeats 2000000 in
theorem two_err4 (op : Int) (k i : Int) (s : List UInt8) (k' i' : Int) (s' : List UInt8) (w : World)
    (M1 : ∀ w, Calls Try.prog 11 #[.agg #[.int .i64 k, .int .i64 i, .string (str s)]] w fun e w' => e = .returned (.bool true) ∧ Below w.heap.size w w')
    (M2 : ∀ w, Calls Try.prog 11 #[.agg #[.int .i64 k', .int .i64 i', .string (str s')]] w fun e w' => e = .returned (.bool true) ∧ Below w.heap.size w w')
    (hk : (k != 2) = false) (hk' : (k' != 2) = true) :
    Calls Try.prog 23 #[.int .i64 op, .agg #[.int .i64 k, .int .i64 i, .string (str s)], .agg #[.int .i64 k', .int .i64 i', .string (str s')]] w fun e w' => e = .returned (.tuple #[.agg #[.int .i64 0, .int .i64 0, .string (str [])], .int .i64 10]) ∧ Below w.heap.size w w' := by
  obtain ⟨q1, q2, q3⟩ := three_allocs w (.cells #[.int .i64 k, .int .i64 i, .string (str s)] 23) (.cells #[.int .i64 k', .int .i64 i', .string (str s')] 23) (.cells #[.int .i64 0, .int .i64 0, .string (str [])] 23)
  have bel : Below w.heap.size w (((w.alloc (.cells #[.int .i64 k, .int .i64 i, .string (str s)] 23)).alloc (.cells #[.int .i64 k', .int .i64 i', .string (str s')] 23)).alloc (.cells #[.int .i64 0, .int .i64 0, .string (str [])] 23)) := (((Below.refl _ w).alloc (Nat.le_refl _) _).alloc (by simp) _).alloc (by simp; omega) _
  go_enter Try.func23, Try.ntmps23
  go_wp2_with fail
  refine (M1 _).mono ?_
  rintro e w1 ⟨rfl, g⟩
  replace q1 := (g.block _ (lt_of_block q1)).trans q1
  replace q2 := (g.block _ (lt_of_block q2)).trans q2
  replace q3 := (g.block _ (lt_of_block q3)).trans q3
  replace bel := chain bel g
  clear g
  obtain ⟨q1c0, q1c1, q1c2⟩ := cells3 q1
  have q1l := lt_of_block q1
  obtain ⟨q2c0, q2c1, q2c2⟩ := cells3 q2
  have q2l := lt_of_block q2
  obtain ⟨q3c0, q3c1, q3c2⟩ := cells3 q3
  have q3l := lt_of_block q3
  go_wp2_with fail
  refine (M2 _).mono ?_
  rintro e w1 ⟨rfl, g⟩
  clear q1c0 q1c1 q1c2 q1l
  replace q1 := (g.block _ (lt_of_block q1)).trans q1
  clear q2c0 q2c1 q2c2 q2l
  replace q2 := (g.block _ (lt_of_block q2)).trans q2
  clear q3c0 q3c1 q3c2 q3l
  replace q3 := (g.block _ (lt_of_block q3)).trans q3
  replace bel := chain bel g
  clear g
  obtain ⟨q1c0, q1c1, q1c2⟩ := cells3 q1
  have q1l := lt_of_block q1
  obtain ⟨q2c0, q2c1, q2c2⟩ := cells3 q2
  have q2l := lt_of_block q2
  obtain ⟨q3c0, q3c1, q3c2⟩ := cells3 q3
  have q3l := lt_of_block q3
  have fz := frozen3 q3
  go_wp2_with fail
  obtain ⟨r0, r1, r2, bel2⟩ := set3 (.int .i64 0) (.int .i64 0) (.string (str [])) q3 bel (by omega)
  refine bodyPost_ret (v := .tuple #[.agg #[.int .i64 0, .int .i64 0, .string (str [])], .int .i64 10]) (by simp [results, Try.results23, go_sem, r0, r1, r2, str_e]) rfl ⟨rfl, bel2⟩
set_option maxRecDepth 100000 in
set_option maxHeartbeats 2000000 in
theorem two_sum_yes (z : Int) (k i : Int) (s : List UInt8) (k' i' : Int) (s' : List UInt8) (w : World)
    (M1 : ∀ w, Calls Try.prog 11 #[.agg #[.int .i64 k, .int .i64 i, .string (str s)]] w fun e w' => e = .returned (.bool true) ∧ Below w.heap.size w w')
    (M2 : ∀ w, Calls Try.prog 11 #[.agg #[.int .i64 k', .int .i64 i', .string (str s')]] w fun e w' => e = .returned (.bool true) ∧ Below w.heap.size w w')
    (CAL : ∀ w, Calls Try.prog 40 #[.int .i64 i, .int .i64 i'] w fun e w' => e = .returned (.tuple #[.int .i64 z, .bool true]) ∧ w = w')
    (hk : (k != 2) = false) (hk' : (k' != 2) = false) :
    Calls Try.prog 23 #[.int .i64 0, .agg #[.int .i64 k, .int .i64 i, .string (str s)], .agg #[.int .i64 k', .int .i64 i', .string (str s')]] w fun e w' => e = .returned (.tuple #[.agg #[.int .i64 2, .int .i64 z, .string (str [])], .int .i64 0]) ∧ Below w.heap.size w w' := by
  obtain ⟨q1, q2, q3⟩ := three_allocs w (.cells #[.int .i64 k, .int .i64 i, .string (str s)] 23) (.cells #[.int .i64 k', .int .i64 i', .string (str s')] 23) (.cells #[.int .i64 0, .int .i64 0, .string (str [])] 23)
  have bel : Below w.heap.size w (((w.alloc (.cells #[.int .i64 k, .int .i64 i, .string (str s)] 23)).alloc (.cells #[.int .i64 k', .int .i64 i', .string (str s')] 23)).alloc (.cells #[.int .i64 0, .int .i64 0, .string (str [])] 23)) := (((Below.refl _ w).alloc (Nat.le_refl _) _).alloc (by simp) _).alloc (by simp; omega) _
  go_enter Try.func23, Try.ntmps23
  have RI := refInt_any
  go_wp2_with fail
  refine (M1 _).mono ?_
  rintro e w1 ⟨rfl, g⟩
  replace q1 := (g.block _ (lt_of_block q1)).trans q1
  replace q2 := (g.block _ (lt_of_block q2)).trans q2
  replace q3 := (g.block _ (lt_of_block q3)).trans q3
  replace bel := chain bel g
  clear g
  obtain ⟨q1c0, q1c1, q1c2⟩ := cells3 q1
  have q1l := lt_of_block q1
  obtain ⟨q2c0, q2c1, q2c2⟩ := cells3 q2
  have q2l := lt_of_block q2
  obtain ⟨q3c0, q3c1, q3c2⟩ := cells3 q3
  have q3l := lt_of_block q3
  go_wp2_with fail
  refine (M2 _).mono ?_
  rintro e w1 ⟨rfl, g⟩
  clear q1c0 q1c1 q1c2 q1l
  replace q1 := (g.block _ (lt_of_block q1)).trans q1
  clear q2c0 q2c1 q2c2 q2l
  replace q2 := (g.block _ (lt_of_block q2)).trans q2
  clear q3c0 q3c1 q3c2 q3l
  replace q3 := (g.block _ (lt_of_block q3)).trans q3
  replace bel := chain bel g
  clear g
  obtain ⟨q1c0, q1c1, q1c2⟩ := cells3 q1
  have q1l := lt_of_block q1
  obtain ⟨q2c0, q2c1, q2c2⟩ := cells3 q2
  have q2l := lt_of_block q2
  obtain ⟨q3c0, q3c1, q3c2⟩ := cells3 q3
  have q3l := lt_of_block q3
  go_wp2_with fail
  refine (CAL _).mono ?_
  rintro e w9 ⟨rfl, rfl⟩
  go_wp2_with fail
  refine (RI _ _).mono ?_
  rintro e w2 ⟨rfl, g⟩
  clear q1c0 q1c1 q1c2 q1l
  replace q1 := (g.block _ (lt_of_block q1)).trans q1
  clear q2c0 q2c1 q2c2 q2l
  replace q2 := (g.block _ (lt_of_block q2)).trans q2
  clear q3c0 q3c1 q3c2 q3l
  replace q3 := (g.block _ (lt_of_block q3)).trans q3
  replace bel := chain bel g
  clear g
  obtain ⟨q1c0, q1c1, q1c2⟩ := cells3 q1
  have q1l := lt_of_block q1
  obtain ⟨q2c0, q2c1, q2c2⟩ := cells3 q2
  have q2l := lt_of_block q2
  obtain ⟨q3c0, q3c1, q3c2⟩ := cells3 q3
  have q3l := lt_of_block q3
  have fz := frozen3 q3
  go_wp2_with fail
  obtain ⟨r0, r1, r2, bel2⟩ := set3 (.int .i64 2) (.int .i64 z) (.string (str [])) q3 bel (by omega)
  refine bodyPost_ret (v := .tuple #[.agg #[.int .i64 2, .int .i64 z, .string (str [])], .int .i64 0]) (by simp [results, Try.results23, go_sem, r0, r1, r2, str_e]) rfl ⟨rfl, bel2⟩
set_option maxRecDepth 100000 in
set_option maxHeartbeats 2000000 in
theorem two_sum_no (z : Int) (k i : Int) (s : List UInt8) (k' i' : Int) (s' : List UInt8) (w : World)
    (M1 : ∀ w, Calls Try.prog 11 #[.agg #[.int .i64 k, .int .i64 i, .string (str s)]] w fun e w' => e = .returned (.bool true) ∧ Below w.heap.size w w')
    (M2 : ∀ w, Calls Try.prog 11 #[.agg #[.int .i64 k', .int .i64 i', .string (str s')]] w fun e w' => e = .returned (.bool true) ∧ Below w.heap.size w w')
    (CAL : ∀ w, Calls Try.prog 40 #[.int .i64 i, .int .i64 i'] w fun e w' => e = .returned (.tuple #[.int .i64 z, .bool false]) ∧ w = w')
    (hk : (k != 2) = false) (hk' : (k' != 2) = false) :
    Calls Try.prog 23 #[.int .i64 0, .agg #[.int .i64 k, .int .i64 i, .string (str s)], .agg #[.int .i64 k', .int .i64 i', .string (str s')]] w fun e w' => e = .returned (.tuple #[.agg #[.int .i64 0, .int .i64 0, .string (str [])], .int .i64 8]) ∧ Below w.heap.size w w' := by
  obtain ⟨q1, q2, q3⟩ := three_allocs w (.cells #[.int .i64 k, .int .i64 i, .string (str s)] 23) (.cells #[.int .i64 k', .int .i64 i', .string (str s')] 23) (.cells #[.int .i64 0, .int .i64 0, .string (str [])] 23)
  have bel : Below w.heap.size w (((w.alloc (.cells #[.int .i64 k, .int .i64 i, .string (str s)] 23)).alloc (.cells #[.int .i64 k', .int .i64 i', .string (str s')] 23)).alloc (.cells #[.int .i64 0, .int .i64 0, .string (str [])] 23)) := (((Below.refl _ w).alloc (Nat.le_refl _) _).alloc (by simp) _).alloc (by simp; omega) _
  go_enter Try.func23, Try.ntmps23
  go_wp2_with fail
  refine (M1 _).mono ?_
  rintro e w1 ⟨rfl, g⟩
  replace q1 := (g.block _ (lt_of_block q1)).trans q1
  replace q2 := (g.block _ (lt_of_block q2)).trans q2
  replace q3 := (g.block _ (lt_of_block q3)).trans q3
  replace bel := chain bel g
  clear g
  obtain ⟨q1c0, q1c1, q1c2⟩ := cells3 q1
  have q1l := lt_of_block q1
  obtain ⟨q2c0, q2c1, q2c2⟩ := cells3 q2
  have q2l := lt_of_block q2
  obtain ⟨q3c0, q3c1, q3c2⟩ := cells3 q3
  have q3l := lt_of_block q3
  go_wp2_with fail
  refine (M2 _).mono ?_
  rintro e w1 ⟨rfl, g⟩
  clear q1c0 q1c1 q1c2 q1l
  replace q1 := (g.block _ (lt_of_block q1)).trans q1
  clear q2c0 q2c1 q2c2 q2l
  replace q2 := (g.block _ (lt_of_block q2)).trans q2
  clear q3c0 q3c1 q3c2 q3l
  replace q3 := (g.block _ (lt_of_block q3)).trans q3
  replace bel := chain bel g
  clear g
  obtain ⟨q1c0, q1c1, q1c2⟩ := cells3 q1
  have q1l := lt_of_block q1
  obtain ⟨q2c0, q2c1, q2c2⟩ := cells3 q2
  have q2l := lt_of_block q2
  obtain ⟨q3c0, q3c1, q3c2⟩ := cells3 q3
  have q3l := lt_of_block q3
  go_wp2_with fail
  refine (CAL _).mono ?_
  rintro e w9 ⟨rfl, rfl⟩
  have fz := frozen3 q3
  go_wp2_with fail
  obtain ⟨r0, r1, r2, bel2⟩ := set3 (.int .i64 0) (.int .i64 0) (.string (str [])) q3 bel (by omega)
  refine bodyPost_ret (v := .tuple #[.agg #[.int .i64 0, .int .i64 0, .string (str [])], .int .i64 8]) (by simp [results, Try.results23, go_sem, r0, r1, r2, str_e]) rfl ⟨rfl, bel2⟩
set_option maxRecDepth 100000 in
set_option maxHeartbeats 2000000 in
theorem two_dif_yes (z : Int) (k i : Int) (s : List UInt8) (k' i' : Int) (s' : List UInt8) (w : World)
    (M1 : ∀ w, Calls Try.prog 11 #[.agg #[.int .i64 k, .int .i64 i, .string (str s)]] w fun e w' => e = .returned (.bool true) ∧ Below w.heap.size w w')
    (M2 : ∀ w, Calls Try.prog 11 #[.agg #[.int .i64 k', .int .i64 i', .string (str s')]] w fun e w' => e = .returned (.bool true) ∧ Below w.heap.size w w')
    (CAL : ∀ w, Calls Try.prog 41 #[.int .i64 i, .int .i64 i'] w fun e w' => e = .returned (.tuple #[.int .i64 z, .bool true]) ∧ w = w')
    (hk : (k != 2) = false) (hk' : (k' != 2) = false) :
    Calls Try.prog 23 #[.int .i64 1, .agg #[.int .i64 k, .int .i64 i, .string (str s)], .agg #[.int .i64 k', .int .i64 i', .string (str s')]] w fun e w' => e = .returned (.tuple #[.agg #[.int .i64 2, .int .i64 z, .string (str [])], .int .i64 0]) ∧ Below w.heap.size w w' := by
  obtain ⟨q1, q2, q3⟩ := three_allocs w (.cells #[.int .i64 k, .int .i64 i, .string (str s)] 23) (.cells #[.int .i64 k', .int .i64 i', .string (str s')] 23) (.cells #[.int .i64 0, .int .i64 0, .string (str [])] 23)
  have bel : Below w.heap.size w (((w.alloc (.cells #[.int .i64 k, .int .i64 i, .string (str s)] 23)).alloc (.cells #[.int .i64 k', .int .i64 i', .string (str s')] 23)).alloc (.cells #[.int .i64 0, .int .i64 0, .string (str [])] 23)) := (((Below.refl _ w).alloc (Nat.le_refl _) _).alloc (by simp) _).alloc (by simp; omega) _
  go_enter Try.func23, Try.ntmps23
  have RI := refInt_any
  go_wp2_with fail
  refine (M1 _).mono ?_
  rintro e w1 ⟨rfl, g⟩
  replace q1 := (g.block _ (lt_of_block q1)).trans q1
  replace q2 := (g.block _ (lt_of_block q2)).trans q2
  replace q3 := (g.block _ (lt_of_block q3)).trans q3
  replace bel := chain bel g
  clear g
  obtain ⟨q1c0, q1c1, q1c2⟩ := cells3 q1
  have q1l := lt_of_block q1
  obtain ⟨q2c0, q2c1, q2c2⟩ := cells3 q2
  have q2l := lt_of_block q2
  obtain ⟨q3c0, q3c1, q3c2⟩ := cells3 q3
  have q3l := lt_of_block q3
  go_wp2_with fail
  refine (M2 _).mono ?_
  rintro e w1 ⟨rfl, g⟩
  clear q1c0 q1c1 q1c2 q1l
  replace q1 := (g.block _ (lt_of_block q1)).trans q1
  clear q2c0 q2c1 q2c2 q2l
  replace q2 := (g.block _ (lt_of_block q2)).trans q2
  clear q3c0 q3c1 q3c2 q3l
  replace q3 := (g.block _ (lt_of_block q3)).trans q3
  replace bel := chain bel g
  clear g
  obtain ⟨q1c0, q1c1, q1c2⟩ := cells3 q1
  have q1l := lt_of_block q1
  obtain ⟨q2c0, q2c1, q2c2⟩ := cells3 q2
  have q2l := lt_of_block q2
  obtain ⟨q3c0, q3c1, q3c2⟩ := cells3 q3
  have q3l := lt_of_block q3
  go_wp2_with fail
  refine (CAL _).mono ?_
  rintro e w9 ⟨rfl, rfl⟩
  go_wp2_with fail
  refine (RI _ _).mono ?_
  rintro e w2 ⟨rfl, g⟩
  clear q1c0 q1c1 q1c2 q1l
  replace q1 := (g.block _ (lt_of_block q1)).trans q1
  clear q2c0 q2c1 q2c2 q2l
  replace q2 := (g.block _ (lt_of_block q2)).trans q2
  clear q3c0 q3c1 q3c2 q3l
  replace q3 := (g.block _ (lt_of_block q3)).trans q3
  replace bel := chain bel g
  clear g
  obtain ⟨q1c0, q1c1, q1c2⟩ := cells3 q1
  have q1l := lt_of_block q1
  obtain ⟨q2c0, q2c1, q2c2⟩ := cells3 q2
  have q2l := lt_of_block q2
  obtain ⟨q3c0, q3c1, q3c2⟩ := cells3 q3
  have q3l := lt_of_block q3
  have fz := frozen3 q3
  go_wp2_with fail
  obtain ⟨r0, r1, r2, bel2⟩ := set3 (.int .i64 2) (.int .i64 z) (.string (str [])) q3 bel (by omega)
  refine bodyPost_ret (v := .tuple #[.agg #[.int .i64 2, .int .i64 z, .string (str [])], .int .i64 0]) (by simp [results, Try.results23, go_sem, r0, r1, r2, str_e]) rfl ⟨rfl, bel2⟩
set_option maxRecDepth 100000 in
set_option maxHeartbeats 2000000 in
theorem two_dif_no (z : Int) (k i : Int) (s : List UInt8) (k' i' : Int) (s' : List UInt8) (w : World)
    (M1 : ∀ w, Calls Try.prog 11 #[.agg #[.int .i64 k, .int .i64 i, .string (str s)]] w fun e w' => e = .returned (.bool true) ∧ Below w.heap.size w w')
    (M2 : ∀ w, Calls Try.prog 11 #[.agg #[.int .i64 k', .int .i64 i', .string (str s')]] w fun e w' => e = .returned (.bool true) ∧ Below w.heap.size w w')
    (CAL : ∀ w, Calls Try.prog 41 #[.int .i64 i, .int .i64 i'] w fun e w' => e = .returned (.tuple #[.int .i64 z, .bool false]) ∧ w = w')
    (hk : (k != 2) = false) (hk' : (k' != 2) = false) :
    Calls Try.prog 23 #[.int .i64 1, .agg #[.int .i64 k, .int .i64 i, .string (str s)], .agg #[.int .i64 k', .int .i64 i', .string (str s')]] w fun e w' => e = .returned (.tuple #[.agg #[.int .i64 0, .int .i64 0, .string (str [])], .int .i64 8]) ∧ Below w.heap.size w w' := by
  obtain ⟨q1, q2, q3⟩ := three_allocs w (.cells #[.int .i64 k, .int .i64 i, .string (str s)] 23) (.cells #[.int .i64 k', .int .i64 i', .string (str s')] 23) (.cells #[.int .i64 0, .int .i64 0, .string (str [])] 23)
  have bel : Below w.heap.size w (((w.alloc (.cells #[.int .i64 k, .int .i64 i, .string (str s)] 23)).alloc (.cells #[.int .i64 k', .int .i64 i', .string (str s')] 23)).alloc (.cells #[.int .i64 0, .int .i64 0, .string (str [])] 23)) := (((Below.refl _ w).alloc (Nat.le_refl _) _).alloc (by simp) _).alloc (by simp; omega) _
  go_enter Try.func23, Try.ntmps23
  go_wp2_with fail
  refine (M1 _).mono ?_
  rintro e w1 ⟨rfl, g⟩
  replace q1 := (g.block _ (lt_of_block q1)).trans q1
  replace q2 := (g.block _ (lt_of_block q2)).trans q2
  replace q3 := (g.block _ (lt_of_block q3)).trans q3
  replace bel := chain bel g
  clear g
  obtain ⟨q1c0, q1c1, q1c2⟩ := cells3 q1
  have q1l := lt_of_block q1
  obtain ⟨q2c0, q2c1, q2c2⟩ := cells3 q2
  have q2l := lt_of_block q2
  obtain ⟨q3c0, q3c1, q3c2⟩ := cells3 q3
  have q3l := lt_of_block q3
  go_wp2_with fail
  refine (M2 _).mono ?_
  rintro e w1 ⟨rfl, g⟩
  clear q1c0 q1c1 q1c2 q1l
  replace q1 := (g.block _ (lt_of_block q1)).trans q1
  clear q2c0 q2c1 q2c2 q2l
  replace q2 := (g.block _ (lt_of_block q2)).trans q2
  clear q3c0 q3c1 q3c2 q3l
  replace q3 := (g.block _ (lt_of_block q3)).trans q3
  replace bel := chain bel g
  clear g
  obtain ⟨q1c0, q1c1, q1c2⟩ := cells3 q1
  have q1l := lt_of_block q1
  obtain ⟨q2c0, q2c1, q2c2⟩ := cells3 q2
  have q2l := lt_of_block q2
  obtain ⟨q3c0, q3c1, q3c2⟩ := cells3 q3
  have q3l := lt_of_block q3
  go_wp2_with fail
  refine (CAL _).mono ?_
  rintro e w9 ⟨rfl, rfl⟩
  have fz := frozen3 q3
  go_wp2_with fail
  obtain ⟨r0, r1, r2, bel2⟩ := set3 (.int .i64 0) (.int .i64 0) (.string (str [])) q3 bel (by omega)
  refine bodyPost_ret (v := .tuple #[.agg #[.int .i64 0, .int .i64 0, .string (str [])], .int .i64 8]) (by simp [results, Try.results23, go_sem, r0, r1, r2, str_e]) rfl ⟨rfl, bel2⟩
set_option maxRecDepth 100000 in
set_option maxHeartbeats 2000000 in
theorem two_prod_yes (z : Int) (k i : Int) (s : List UInt8) (k' i' : Int) (s' : List UInt8) (w : World)
    (M1 : ∀ w, Calls Try.prog 11 #[.agg #[.int .i64 k, .int .i64 i, .string (str s)]] w fun e w' => e = .returned (.bool true) ∧ Below w.heap.size w w')
    (M2 : ∀ w, Calls Try.prog 11 #[.agg #[.int .i64 k', .int .i64 i', .string (str s')]] w fun e w' => e = .returned (.bool true) ∧ Below w.heap.size w w')
    (CAL : ∀ w, Calls Try.prog 42 #[.int .i64 i, .int .i64 i'] w fun e w' => e = .returned (.tuple #[.int .i64 z, .bool true]) ∧ w = w')
    (hk : (k != 2) = false) (hk' : (k' != 2) = false) :
    Calls Try.prog 23 #[.int .i64 2, .agg #[.int .i64 k, .int .i64 i, .string (str s)], .agg #[.int .i64 k', .int .i64 i', .string (str s')]] w fun e w' => e = .returned (.tuple #[.agg #[.int .i64 2, .int .i64 z, .string (str [])], .int .i64 0]) ∧ Below w.heap.size w w' := by
  obtain ⟨q1, q2, q3⟩ := three_allocs w (.cells #[.int .i64 k, .int .i64 i, .string (str s)] 23) (.cells #[.int .i64 k', .int .i64 i', .string (str s')] 23) (.cells #[.int .i64 0, .int .i64 0, .string (str [])] 23)
  have bel : Below w.heap.size w (((w.alloc (.cells #[.int .i64 k, .int .i64 i, .string (str s)] 23)).alloc (.cells #[.int .i64 k', .int .i64 i', .string (str s')] 23)).alloc (.cells #[.int .i64 0, .int .i64 0, .string (str [])] 23)) := (((Below.refl _ w).alloc (Nat.le_refl _) _).alloc (by simp) _).alloc (by simp; omega) _
  go_enter Try.func23, Try.ntmps23
  have RI := refInt_any
  go_wp2_with fail
  refine (M1 _).mono ?_
  rintro e w1 ⟨rfl, g⟩
  replace q1 := (g.block _ (lt_of_block q1)).trans q1
  replace q2 := (g.block _ (lt_of_block q2)).trans q2
  replace q3 := (g.block _ (lt_of_block q3)).trans q3
  replace bel := chain bel g
  clear g
  obtain ⟨q1c0, q1c1, q1c2⟩ := cells3 q1
  have q1l := lt_of_block q1
  obtain ⟨q2c0, q2c1, q2c2⟩ := cells3 q2
  have q2l := lt_of_block q2
  obtain ⟨q3c0, q3c1, q3c2⟩ := cells3 q3
  have q3l := lt_of_block q3
  go_wp2_with fail
  refine (M2 _).mono ?_
  rintro e w1 ⟨rfl, g⟩
  clear q1c0 q1c1 q1c2 q1l
  replace q1 := (g.block _ (lt_of_block q1)).trans q1
  clear q2c0 q2c1 q2c2 q2l
  replace q2 := (g.block _ (lt_of_block q2)).trans q2
  clear q3c0 q3c1 q3c2 q3l
  replace q3 := (g.block _ (lt_of_block q3)).trans q3
  replace bel := chain bel g
  clear g
  obtain ⟨q1c0, q1c1, q1c2⟩ := cells3 q1
  have q1l := lt_of_block q1
  obtain ⟨q2c0, q2c1, q2c2⟩ := cells3 q2
  have q2l := lt_of_block q2
  obtain ⟨q3c0, q3c1, q3c2⟩ := cells3 q3
  have q3l := lt_of_block q3
  go_wp2_with fail
  refine (CAL _).mono ?_
  rintro e w9 ⟨rfl, rfl⟩
  go_wp2_with fail
  refine (RI _ _).mono ?_
  rintro e w2 ⟨rfl, g⟩
  clear q1c0 q1c1 q1c2 q1l
  replace q1 := (g.block _ (lt_of_block q1)).trans q1
  clear q2c0 q2c1 q2c2 q2l
  replace q2 := (g.block _ (lt_of_block q2)).trans q2
  clear q3c0 q3c1 q3c2 q3l
  replace q3 := (g.block _ (lt_of_block q3)).trans q3
  replace bel := chain bel g
  clear g
  obtain ⟨q1c0, q1c1, q1c2⟩ := cells3 q1
  have q1l := lt_of_block q1
  obtain ⟨q2c0, q2c1, q2c2⟩ := cells3 q2
  have q2l := lt_of_block q2
  obtain ⟨q3c0, q3c1, q3c2⟩ := cells3 q3
  have q3l := lt_of_block q3
  have fz := frozen3 q3
  go_wp2_with fail
  obtain ⟨r0, r1, r2, bel2⟩ := set3 (.int .i64 2) (.int .i64 z) (.string (str [])) q3 bel (by omega)
  refine bodyPost_ret (v := .tuple #[.agg #[.int .i64 2, .int .i64 z, .string (str [])], .int .i64 0]) (by simp [results, Try.results23, go_sem, r0, r1, r2, str_e]) rfl ⟨rfl, bel2⟩
set_option maxRecDepth 100000 in
set_option maxHeartbeats 2000000 in
theorem two_prod_no (z : Int) (k i : Int) (s : List UInt8) (k' i' : Int) (s' : List UInt8) (w : World)
    (M1 : ∀ w, Calls Try.prog 11 #[.agg #[.int .i64 k, .int .i64 i, .string (str s)]] w fun e w' => e = .returned (.bool true) ∧ Below w.heap.size w w')
    (M2 : ∀ w, Calls Try.prog 11 #[.agg #[.int .i64 k', .int .i64 i', .string (str s')]] w fun e w' => e = .returned (.bool true) ∧ Below w.heap.size w w')
    (CAL : ∀ w, Calls Try.prog 42 #[.int .i64 i, .int .i64 i'] w fun e w' => e = .returned (.tuple #[.int .i64 z, .bool false]) ∧ w = w')
    (hk : (k != 2) = false) (hk' : (k' != 2) = false) :
    Calls Try.prog 23 #[.int .i64 2, .agg #[.int .i64 k, .int .i64 i, .string (str s)], .agg #[.int .i64 k', .int .i64 i', .string (str s')]] w fun e w' => e = .returned (.tuple #[.agg #[.int .i64 0, .int .i64 0, .string (str [])], .int .i64 8]) ∧ Below w.heap.size w w' := by
  obtain ⟨q1, q2, q3⟩ := three_allocs w (.cells #[.int .i64 k, .int .i64 i, .string (str s)] 23) (.cells #[.int .i64 k', .int .i64 i', .string (str s')] 23) (.cells #[.int .i64 0, .int .i64 0, .string (str [])] 23)
  have bel : Below w.heap.size w (((w.alloc (.cells #[.int .i64 k, .int .i64 i, .string (str s)] 23)).alloc (.cells #[.int .i64 k', .int .i64 i', .string (str s')] 23)).alloc (.cells #[.int .i64 0, .int .i64 0, .string (str [])] 23)) := (((Below.refl _ w).alloc (Nat.le_refl _) _).alloc (by simp) _).alloc (by simp; omega) _
  go_enter Try.func23, Try.ntmps23
  go_wp2_with fail
  refine (M1 _).mono ?_
  rintro e w1 ⟨rfl, g⟩
  replace q1 := (g.block _ (lt_of_block q1)).trans q1
  replace q2 := (g.block _ (lt_of_block q2)).trans q2
  replace q3 := (g.block _ (lt_of_block q3)).trans q3
  replace bel := chain bel g
  clear g
  obtain ⟨q1c0, q1c1, q1c2⟩ := cells3 q1
  have q1l := lt_of_block q1
  obtain ⟨q2c0, q2c1, q2c2⟩ := cells3 q2
  have q2l := lt_of_block q2
  obtain ⟨q3c0, q3c1, q3c2⟩ := cells3 q3
  have q3l := lt_of_block q3
  go_wp2_with fail
  refine (M2 _).mono ?_
  rintro e w1 ⟨rfl, g⟩
  clear q1c0 q1c1 q1c2 q1l
  replace q1 := (g.block _ (lt_of_block q1)).trans q1
  clear q2c0 q2c1 q2c2 q2l
  replace q2 := (g.block _ (lt_of_block q2)).trans q2
  clear q3c0 q3c1 q3c2 q3l
  replace q3 := (g.block _ (lt_of_block q3)).trans q3
  replace bel := chain bel g
  clear g
  obtain ⟨q1c0, q1c1, q1c2⟩ := cells3 q1
  have q1l := lt_of_block q1
  obtain ⟨q2c0, q2c1, q2c2⟩ := cells3 q2
  have q2l := lt_of_block q2
  obtain ⟨q3c0, q3c1, q3c2⟩ := cells3 q3
  have q3l := lt_of_block q3
  go_wp2_with fail
  refine (CAL _).mono ?_
  rintro e w9 ⟨rfl, rfl⟩
  have fz := frozen3 q3
  go_wp2_with fail
  obtain ⟨r0, r1, r2, bel2⟩ := set3 (.int .i64 0) (.int .i64 0) (.string (str [])) q3 bel (by omega)
  refine bodyPost_ret (v := .tuple #[.agg #[.int .i64 0, .int .i64 0, .string (str [])], .int .i64 8]) (by simp [results, Try.results23, go_sem, r0, r1, r2, str_e]) rfl ⟨rfl, bel2⟩
set_option maxRecDepth 100000 in
set_option maxHeartbeats 2000000 in
theorem two_div_zero (k i : Int) (s : List UInt8) (k' i' : Int) (s' : List UInt8) (w : World)
    (M1 : ∀ w, Calls Try.prog 11 #[.agg #[.int .i64 k, .int .i64 i, .string (str s)]] w fun e w' => e = .returned (.bool true) ∧ Below w.heap.size w w')
    (M2 : ∀ w, Calls Try.prog 11 #[.agg #[.int .i64 k', .int .i64 i', .string (str s')]] w fun e w' => e = .returned (.bool true) ∧ Below w.heap.size w w')
    (hk : (k != 2) = false) (hk' : (k' != 2) = false) (hz : (i' == 0) = true) :
    Calls Try.prog 23 #[.int .i64 3, .agg #[.int .i64 k, .int .i64 i, .string (str s)], .agg #[.int .i64 k', .int .i64 i', .string (str s')]] w fun e w' => e = .returned (.tuple #[.agg #[.int .i64 0, .int .i64 0, .string (str [])], .int .i64 9]) ∧ Below w.heap.size w w' := by
  obtain ⟨q1, q2, q3⟩ := three_allocs w (.cells #[.int .i64 k, .int .i64 i, .string (str s)] 23) (.cells #[.int .i64 k', .int .i64 i', .string (str s')] 23) (.cells #[.int .i64 0, .int .i64 0, .string (str [])] 23)
  have bel : Below w.heap.size w (((w.alloc (.cells #[.int .i64 k, .int .i64 i, .string (str s)] 23)).alloc (.cells #[.int .i64 k', .int .i64 i', .string (str s')] 23)).alloc (.cells #[.int .i64 0, .int .i64 0, .string (str [])] 23)) := (((Below.refl _ w).alloc (Nat.le_refl _) _).alloc (by simp) _).alloc (by simp; omega) _
  go_enter Try.func23, Try.ntmps23
  go_wp2_with fail
  refine (M1 _).mono ?_
  rintro e w1 ⟨rfl, g⟩
  replace q1 := (g.block _ (lt_of_block q1)).trans q1
  replace q2 := (g.block _ (lt_of_block q2)).trans q2
  replace q3 := (g.block _ (lt_of_block q3)).trans q3
  replace bel := chain bel g
  clear g
  obtain ⟨q1c0, q1c1, q1c2⟩ := cells3 q1
  have q1l := lt_of_block q1
  obtain ⟨q2c0, q2c1, q2c2⟩ := cells3 q2
  have q2l := lt_of_block q2
  obtain ⟨q3c0, q3c1, q3c2⟩ := cells3 q3
  have q3l := lt_of_block q3
  go_wp2_with fail
  refine (M2 _).mono ?_
  rintro e w1 ⟨rfl, g⟩
  clear q1c0 q1c1 q1c2 q1l
  replace q1 := (g.block _ (lt_of_block q1)).trans q1
  clear q2c0 q2c1 q2c2 q2l
  replace q2 := (g.block _ (lt_of_block q2)).trans q2
  clear q3c0 q3c1 q3c2 q3l
  replace q3 := (g.block _ (lt_of_block q3)).trans q3
  replace bel := chain bel g
  clear g
  obtain ⟨q1c0, q1c1, q1c2⟩ := cells3 q1
  have q1l := lt_of_block q1
  obtain ⟨q2c0, q2c1, q2c2⟩ := cells3 q2
  have q2l := lt_of_block q2
  obtain ⟨q3c0, q3c1, q3c2⟩ := cells3 q3
  have q3l := lt_of_block q3
  have fz := frozen3 q3
  go_wp2_with fail
  obtain ⟨r0, r1, r2, bel2⟩ := set3 (.int .i64 0) (.int .i64 0) (.string (str [])) q3 bel (by omega)
  refine bodyPost_ret (v := .tuple #[.agg #[.int .i64 0, .int .i64 0, .string (str [])], .int .i64 9]) (by simp [results, Try.results23, go_sem, r0, r1, r2, str_e]) rfl ⟨rfl, bel2⟩
set_option maxRecDepth 100000 in
set_option maxHeartbeats 2000000 in
theorem two_div_yes (z : Int) (Q P M : Nat) (k i : Int) (s : List UInt8) (k' i' : Int) (s' : List UInt8) (w : World)
    (M1 : ∀ w, Calls Try.prog 11 #[.agg #[.int .i64 k, .int .i64 i, .string (str s)]] w fun e w' => e = .returned (.bool true) ∧ Below w.heap.size w w')
    (M2 : ∀ w, Calls Try.prog 11 #[.agg #[.int .i64 k', .int .i64 i', .string (str s')]] w fun e w' => e = .returned (.bool true) ∧ Below w.heap.size w w')
    (CAL : ∀ w, Calls Try.prog 44 #[.int .u64 (Q : Int), .bool (!(decide (i < 0) == decide (i' < 0)))] w fun e w' => e = .returned (.tuple #[.int .i64 z, .bool true]) ∧ w = w')
    (hk : (k != 2) = false) (hk' : (k' != 2) = false)
    (hz : (i' == 0) = false) (hi : fits i) (hi' : fits i') (hX : sz i ≤ 9223372036854775808) (hY : sz i' ≤ 9223372036854775808) (e0 : (sz i : Int) / (sz i' : Int) = (Q : Int)) (e1 : (sz i : Int).tdiv (sz i' : Int) = (Q : Int)) (e2 : IntKind.u64.wrap ((Q : Int) * (sz i' : Int)) = (P : Int)) (e3 : IntKind.u64.wrap ((sz i : Int) - (P : Int)) = (M : Int)) (hQ : Q ≤ 9223372036854775808) (hY0 : 0 < sz i') (hY1 : ((sz i' : Int) == 0) = false) :
    Calls Try.prog 23 #[.int .i64 3, .agg #[.int .i64 k, .int .i64 i, .string (str s)], .agg #[.int .i64 k', .int .i64 i', .string (str s')]] w fun e w' => e = .returned (.tuple #[.agg #[.int .i64 2, .int .i64 z, .string (str [])], .int .i64 0]) ∧ Below w.heap.size w w' := by
  obtain ⟨q1, q2, q3⟩ := three_allocs w (.cells #[.int .i64 k, .int .i64 i, .string (str s)] 23) (.cells #[.int .i64 k', .int .i64 i', .string (str s')] 23) (.cells #[.int .i64 0, .int .i64 0, .string (str [])] 23)
  have bel : Below w.heap.size w (((w.alloc (.cells #[.int .i64 k, .int .i64 i, .string (str s)] 23)).alloc (.cells #[.int .i64 k', .int .i64 i', .string (str s')] 23)).alloc (.cells #[.int .i64 0, .int .i64 0, .string (str [])] 23)) := (((Below.refl _ w).alloc (Nat.le_refl _) _).alloc (by simp) _).alloc (by simp; omega) _
  go_enter Try.func23, Try.ntmps23
  have RI := refInt_any
  go_wp2_with fail
  refine (M1 _).mono ?_
  rintro e w1 ⟨rfl, g⟩
  replace q1 := (g.block _ (lt_of_block q1)).trans q1
  replace q2 := (g.block _ (lt_of_block q2)).trans q2
  replace q3 := (g.block _ (lt_of_block q3)).trans q3
  replace bel := chain bel g
  clear g
  obtain ⟨q1c0, q1c1, q1c2⟩ := cells3 q1
  have q1l := lt_of_block q1
  obtain ⟨q2c0, q2c1, q2c2⟩ := cells3 q2
  have q2l := lt_of_block q2
  obtain ⟨q3c0, q3c1, q3c2⟩ := cells3 q3
  have q3l := lt_of_block q3
  go_wp2_with fail
  refine (M2 _).mono ?_
  rintro e w1 ⟨rfl, g⟩
  clear q1c0 q1c1 q1c2 q1l
  replace q1 := (g.block _ (lt_of_block q1)).trans q1
  clear q2c0 q2c1 q2c2 q2l
  replace q2 := (g.block _ (lt_of_block q2)).trans q2
  clear q3c0 q3c1 q3c2 q3l
  replace q3 := (g.block _ (lt_of_block q3)).trans q3
  replace bel := chain bel g
  clear g
  obtain ⟨q1c0, q1c1, q1c2⟩ := cells3 q1
  have q1l := lt_of_block q1
  obtain ⟨q2c0, q2c1, q2c2⟩ := cells3 q2
  have q2l := lt_of_block q2
  obtain ⟨q3c0, q3c1, q3c2⟩ := cells3 q3
  have q3l := lt_of_block q3
  go_wp2_with fail
  go_quiet ((go_at_call 43; exact Calls.quiet_of_same (size_sz _ (by assumption) _)))
  obtain ⟨v0, hv⟩ : ∃ v, v = World.drewN w1 nq := ⟨_, rfl⟩
  have he : v0.heap = w1.heap := by rw [hv]; rfl
  have bel : Below w.heap.size w v0 := by rw [hv]; exact below_drewN bel
  rw [← hv]
  clear hv
  clear q1l q1c0 q1c1 q1c2
  rw [← he] at q1
  clear q2l q2c0 q2c1 q2c2
  rw [← he] at q2
  clear q3l q3c0 q3c1 q3c2
  rw [← he] at q3
  clear he
  obtain ⟨q1c0, q1c1, q1c2⟩ := cells3 q1
  have q1l := lt_of_block q1
  obtain ⟨q2c0, q2c1, q2c2⟩ := cells3 q2
  have q2l := lt_of_block q2
  obtain ⟨q3c0, q3c1, q3c2⟩ := cells3 q3
  have q3l := lt_of_block q3
  go_wp2_with fail
  go_quiet ((go_at_call 43; exact Calls.quiet_of_same (size_sz _ (by assumption) _)))
  obtain ⟨v1, hv⟩ : ∃ v, v = World.drewN v0 nq := ⟨_, rfl⟩
  have he : v1.heap = v0.heap := by rw [hv]; rfl
  have bel : Below w.heap.size w v1 := by rw [hv]; exact below_drewN bel
  rw [← hv]
  clear hv
  clear q1l q1c0 q1c1 q1c2
  rw [← he] at q1
  clear q2l q2c0 q2c1 q2c2
  rw [← he] at q2
  clear q3l q3c0 q3c1 q3c2
  rw [← he] at q3
  clear he
  obtain ⟨q1c0, q1c1, q1c2⟩ := cells3 q1
  have q1l := lt_of_block q1
  obtain ⟨q2c0, q2c1, q2c2⟩ := cells3 q2
  have q2l := lt_of_block q2
  obtain ⟨q3c0, q3c1, q3c2⟩ := cells3 q3
  have q3l := lt_of_block q3
  go_wp2_with fail
  refine (CAL _).mono ?_
  rintro e w9 ⟨rfl, rfl⟩
  go_wp2_with fail
  refine (RI _ _).mono ?_
  rintro e w2 ⟨rfl, g⟩
  clear q1c0 q1c1 q1c2 q1l
  replace q1 := (g.block _ (lt_of_block q1)).trans q1
  clear q2c0 q2c1 q2c2 q2l
  replace q2 := (g.block _ (lt_of_block q2)).trans q2
  clear q3c0 q3c1 q3c2 q3l
  replace q3 := (g.block _ (lt_of_block q3)).trans q3
  replace bel := chain bel g
  clear g
  obtain ⟨q1c0, q1c1, q1c2⟩ := cells3 q1
  have q1l := lt_of_block q1
  obtain ⟨q2c0, q2c1, q2c2⟩ := cells3 q2
  have q2l := lt_of_block q2
  obtain ⟨q3c0, q3c1, q3c2⟩ := cells3 q3
  have q3l := lt_of_block q3
  have fz := frozen3 q3
  go_wp2_with fail
  obtain ⟨r0, r1, r2, bel2⟩ := set3 (.int .i64 2) (.int .i64 z) (.string (str [])) q3 bel (by omega)
  refine bodyPost_ret (v := .tuple #[.agg #[.int .i64 2, .int .i64 z, .string (str [])], .int .i64 0]) (by simp [results, Try.results23, go_sem, r0, r1, r2, str_e]) rfl ⟨rfl, bel2⟩
set_option maxRecDepth 100000 in
set_option maxHeartbeats 2000000 in
theorem two_div_no (z : Int) (Q P M : Nat) (k i : Int) (s : List UInt8) (k' i' : Int) (s' : List UInt8) (w : World)
    (M1 : ∀ w, Calls Try.prog 11 #[.agg #[.int .i64 k, .int .i64 i, .string (str s)]] w fun e w' => e = .returned (.bool true) ∧ Below w.heap.size w w')
    (M2 : ∀ w, Calls Try.prog 11 #[.agg #[.int .i64 k', .int .i64 i', .string (str s')]] w fun e w' => e = .returned (.bool true) ∧ Below w.heap.size w w')
    (CAL : ∀ w, Calls Try.prog 44 #[.int .u64 (Q : Int), .bool (!(decide (i < 0) == decide (i' < 0)))] w fun e w' => e = .returned (.tuple #[.int .i64 z, .bool false]) ∧ w = w')
    (hk : (k != 2) = false) (hk' : (k' != 2) = false)
    (hz : (i' == 0) = false) (hi : fits i) (hi' : fits i') (hX : sz i ≤ 9223372036854775808) (hY : sz i' ≤ 9223372036854775808) (e0 : (sz i : Int) / (sz i' : Int) = (Q : Int)) (e1 : (sz i : Int).tdiv (sz i' : Int) = (Q : Int)) (e2 : IntKind.u64.wrap ((Q : Int) * (sz i' : Int)) = (P : Int)) (e3 : IntKind.u64.wrap ((sz i : Int) - (P : Int)) = (M : Int)) (hQ : Q ≤ 9223372036854775808) (hY0 : 0 < sz i') (hY1 : ((sz i' : Int) == 0) = false) :
    Calls Try.prog 23 #[.int .i64 3, .agg #[.int .i64 k, .int .i64 i, .string (str s)], .agg #[.int .i64 k', .int .i64 i', .string (str s')]] w fun e w' => e = .returned (.tuple #[.agg #[.int .i64 0, .int .i64 0, .string (str [])], .int .i64 8]) ∧ Below w.heap.size w w' := by
  obtain ⟨q1, q2, q3⟩ := three_allocs w (.cells #[.int .i64 k, .int .i64 i, .string (str s)] 23) (.cells #[.int .i64 k', .int .i64 i', .string (str s')] 23) (.cells #[.int .i64 0, .int .i64 0, .string (str [])] 23)
  have bel : Below w.heap.size w (((w.alloc (.cells #[.int .i64 k, .int .i64 i, .string (str s)] 23)).alloc (.cells #[.int .i64 k', .int .i64 i', .string (str s')] 23)).alloc (.cells #[.int .i64 0, .int .i64 0, .string (str [])] 23)) := (((Below.refl _ w).alloc (Nat.le_refl _) _).alloc (by simp) _).alloc (by simp; omega) _
  go_enter Try.func23, Try.ntmps23
  go_wp2_with fail
  refine (M1 _).mono ?_
  rintro e w1 ⟨rfl, g⟩
  replace q1 := (g.block _ (lt_of_block q1)).trans q1
  replace q2 := (g.block _ (lt_of_block q2)).trans q2
  replace q3 := (g.block _ (lt_of_block q3)).trans q3
  replace bel := chain bel g
  clear g
  obtain ⟨q1c0, q1c1, q1c2⟩ := cells3 q1
  have q1l := lt_of_block q1
  obtain ⟨q2c0, q2c1, q2c2⟩ := cells3 q2
  have q2l := lt_of_block q2
  obtain ⟨q3c0, q3c1, q3c2⟩ := cells3 q3
  have q3l := lt_of_block q3
  go_wp2_with fail
  refine (M2 _).mono ?_
  rintro e w1 ⟨rfl, g⟩
  clear q1c0 q1c1 q1c2 q1l
  replace q1 := (g.block _ (lt_of_block q1)).trans q1
  clear q2c0 q2c1 q2c2 q2l
  replace q2 := (g.block _ (lt_of_block q2)).trans q2
  clear q3c0 q3c1 q3c2 q3l
  replace q3 := (g.block _ (lt_of_block q3)).trans q3
  replace bel := chain bel g
  clear g
  obtain ⟨q1c0, q1c1, q1c2⟩ := cells3 q1
  have q1l := lt_of_block q1
  obtain ⟨q2c0, q2c1, q2c2⟩ := cells3 q2
  have q2l := lt_of_block q2
  obtain ⟨q3c0, q3c1, q3c2⟩ := cells3 q3
  have q3l := lt_of_block q3
  go_wp2_with fail
  go_quiet ((go_at_call 43; exact Calls.quiet_of_same (size_sz _ (by assumption) _)))
  obtain ⟨v0, hv⟩ : ∃ v, v = World.drewN w1 nq := ⟨_, rfl⟩
  have he : v0.heap = w1.heap := by rw [hv]; rfl
  have bel : Below w.heap.size w v0 := by rw [hv]; exact below_drewN bel
  rw [← hv]
  clear hv
  clear q1l q1c0 q1c1 q1c2
  rw [← he] at q1
  clear q2l q2c0 q2c1 q2c2
  rw [← he] at q2
  clear q3l q3c0 q3c1 q3c2
  rw [← he] at q3
  clear he
  obtain ⟨q1c0, q1c1, q1c2⟩ := cells3 q1
  have q1l := lt_of_block q1
  obtain ⟨q2c0, q2c1, q2c2⟩ := cells3 q2
  have q2l := lt_of_block q2
  obtain ⟨q3c0, q3c1, q3c2⟩ := cells3 q3
  have q3l := lt_of_block q3
  go_wp2_with fail
  go_quiet ((go_at_call 43; exact Calls.quiet_of_same (size_sz _ (by assumption) _)))
  obtain ⟨v1, hv⟩ : ∃ v, v = World.drewN v0 nq := ⟨_, rfl⟩
  have he : v1.heap = v0.heap := by rw [hv]; rfl
  have bel : Below w.heap.size w v1 := by rw [hv]; exact below_drewN bel
  rw [← hv]
  clear hv
  clear q1l q1c0 q1c1 q1c2
  rw [← he] at q1
  clear q2l q2c0 q2c1 q2c2
  rw [← he] at q2
  clear q3l q3c0 q3c1 q3c2
  rw [← he] at q3
  clear he
  obtain ⟨q1c0, q1c1, q1c2⟩ := cells3 q1
  have q1l := lt_of_block q1
  obtain ⟨q2c0, q2c1, q2c2⟩ := cells3 q2
  have q2l := lt_of_block q2
  obtain ⟨q3c0, q3c1, q3c2⟩ := cells3 q3
  have q3l := lt_of_block q3
  go_wp2_with fail
  refine (CAL _).mono ?_
  rintro e w9 ⟨rfl, rfl⟩
  have fz := frozen3 q3
  go_wp2_with fail
  obtain ⟨r0, r1, r2, bel2⟩ := set3 (.int .i64 0) (.int .i64 0) (.string (str [])) q3 bel (by omega)
  refine bodyPost_ret (v := .tuple #[.agg #[.int .i64 0, .int .i64 0, .string (str [])], .int .i64 8]) (by simp [results, Try.results23, go_sem, r0, r1, r2, str_e]) rfl ⟨rfl, bel2⟩
set_option maxRecDepth 100000 in
set_option maxHeartbeats 2000000 in
theorem two_mod_zero (k i : Int) (s : List UInt8) (k' i' : Int) (s' : List UInt8) (w : World)
    (M1 : ∀ w, Calls Try.prog 11 #[.agg #[.int .i64 k, .int .i64 i, .string (str s)]] w fun e w' => e = .returned (.bool true) ∧ Below w.heap.size w w')
    (M2 : ∀ w, Calls Try.prog 11 #[.agg #[.int .i64 k', .int .i64 i', .string (str s')]] w fun e w' => e = .returned (.bool true) ∧ Below w.heap.size w w')
    (hk : (k != 2) = false) (hk' : (k' != 2) = false) (hz : (i' == 0) = true) :
    Calls Try.prog 23 #[.int .i64 4, .agg #[.int .i64 k, .int .i64 i, .string (str s)], .agg #[.int .i64 k', .int .i64 i', .string (str s')]] w fun e w' => e = .returned (.tuple #[.agg #[.int .i64 0, .int .i64 0, .string (str [])], .int .i64 9]) ∧ Below w.heap.size w w' := by
  obtain ⟨q1, q2, q3⟩ := three_allocs w (.cells #[.int .i64 k, .int .i64 i, .string (str s)] 23) (.cells #[.int .i64 k', .int .i64 i', .string (str s')] 23) (.cells #[.int .i64 0, .int .i64 0, .string (str [])] 23)
  have bel : Below w.heap.size w (((w.alloc (.cells #[.int .i64 k, .int .i64 i, .string (str s)] 23)).alloc (.cells #[.int .i64 k', .int .i64 i', .string (str s')] 23)).alloc (.cells #[.int .i64 0, .int .i64 0, .string (str [])] 23)) := (((Below.refl _ w).alloc (Nat.le_refl _) _).alloc (by simp) _).alloc (by simp; omega) _
  go_enter Try.func23, Try.ntmps23
  go_wp2_with fail
  refine (M1 _).mono ?_
  rintro e w1 ⟨rfl, g⟩
  replace q1 := (g.block _ (lt_of_block q1)).trans q1
  replace q2 := (g.block _ (lt_of_block q2)).trans q2
  replace q3 := (g.block _ (lt_of_block q3)).trans q3
  replace bel := chain bel g
  clear g
  obtain ⟨q1c0, q1c1, q1c2⟩ := cells3 q1
  have q1l := lt_of_block q1
  obtain ⟨q2c0, q2c1, q2c2⟩ := cells3 q2
  have q2l := lt_of_block q2
  obtain ⟨q3c0, q3c1, q3c2⟩ := cells3 q3
  have q3l := lt_of_block q3
  go_wp2_with fail
  refine (M2 _).mono ?_
  rintro e w1 ⟨rfl, g⟩
  clear q1c0 q1c1 q1c2 q1l
  replace q1 := (g.block _ (lt_of_block q1)).trans q1
  clear q2c0 q2c1 q2c2 q2l
  replace q2 := (g.block _ (lt_of_block q2)).trans q2
  clear q3c0 q3c1 q3c2 q3l
  replace q3 := (g.block _ (lt_of_block q3)).trans q3
  replace bel := chain bel g
  clear g
  obtain ⟨q1c0, q1c1, q1c2⟩ := cells3 q1
  have q1l := lt_of_block q1
  obtain ⟨q2c0, q2c1, q2c2⟩ := cells3 q2
  have q2l := lt_of_block q2
  obtain ⟨q3c0, q3c1, q3c2⟩ := cells3 q3
  have q3l := lt_of_block q3
  have fz := frozen3 q3
  go_wp2_with fail
  obtain ⟨r0, r1, r2, bel2⟩ := set3 (.int .i64 0) (.int .i64 0) (.string (str [])) q3 bel (by omega)
  refine bodyPost_ret (v := .tuple #[.agg #[.int .i64 0, .int .i64 0, .string (str [])], .int .i64 9]) (by simp [results, Try.results23, go_sem, r0, r1, r2, str_e]) rfl ⟨rfl, bel2⟩
set_option maxRecDepth 100000 in
set_option maxHeartbeats 2000000 in
theorem two_mod_yes (z : Int) (Q P M : Nat) (k i : Int) (s : List UInt8) (k' i' : Int) (s' : List UInt8) (w : World)
    (M1 : ∀ w, Calls Try.prog 11 #[.agg #[.int .i64 k, .int .i64 i, .string (str s)]] w fun e w' => e = .returned (.bool true) ∧ Below w.heap.size w w')
    (M2 : ∀ w, Calls Try.prog 11 #[.agg #[.int .i64 k', .int .i64 i', .string (str s')]] w fun e w' => e = .returned (.bool true) ∧ Below w.heap.size w w')
    (CAL : ∀ w, Calls Try.prog 44 #[.int .u64 (M : Int), .bool (decide (i < 0))] w fun e w' => e = .returned (.tuple #[.int .i64 z, .bool true]) ∧ w = w')
    (hk : (k != 2) = false) (hk' : (k' != 2) = false)
    (hz : (i' == 0) = false) (hi : fits i) (hi' : fits i') (hX : sz i ≤ 9223372036854775808) (hY : sz i' ≤ 9223372036854775808) (e0 : (sz i : Int) / (sz i' : Int) = (Q : Int)) (e1 : (sz i : Int).tdiv (sz i' : Int) = (Q : Int)) (e2 : IntKind.u64.wrap ((Q : Int) * (sz i' : Int)) = (P : Int)) (e3 : IntKind.u64.wrap ((sz i : Int) - (P : Int)) = (M : Int)) (hQ : Q ≤ 9223372036854775808) (hY0 : 0 < sz i') (hY1 : ((sz i' : Int) == 0) = false) :
    Calls Try.prog 23 #[.int .i64 4, .agg #[.int .i64 k, .int .i64 i, .string (str s)], .agg #[.int .i64 k', .int .i64 i', .string (str s')]] w fun e w' => e = .returned (.tuple #[.agg #[.int .i64 2, .int .i64 z, .string (str [])], .int .i64 0]) ∧ Below w.heap.size w w' := by
  obtain ⟨q1, q2, q3⟩ := three_allocs w (.cells #[.int .i64 k, .int .i64 i, .string (str s)] 23) (.cells #[.int .i64 k', .int .i64 i', .string (str s')] 23) (.cells #[.int .i64 0, .int .i64 0, .string (str [])] 23)
  have bel : Below w.heap.size w (((w.alloc (.cells #[.int .i64 k, .int .i64 i, .string (str s)] 23)).alloc (.cells #[.int .i64 k', .int .i64 i', .string (str s')] 23)).alloc (.cells #[.int .i64 0, .int .i64 0, .string (str [])] 23)) := (((Below.refl _ w).alloc (Nat.le_refl _) _).alloc (by simp) _).alloc (by simp; omega) _
  go_enter Try.func23, Try.ntmps23
  have RI := refInt_any
  go_wp2_with fail
  refine (M1 _).mono ?_
  rintro e w1 ⟨rfl, g⟩
  replace q1 := (g.block _ (lt_of_block q1)).trans q1
  replace q2 := (g.block _ (lt_of_block q2)).trans q2
  replace q3 := (g.block _ (lt_of_block q3)).trans q3
  replace bel := chain bel g
  clear g
  obtain ⟨q1c0, q1c1, q1c2⟩ := cells3 q1
  have q1l := lt_of_block q1
  obtain ⟨q2c0, q2c1, q2c2⟩ := cells3 q2
  have q2l := lt_of_block q2
  obtain ⟨q3c0, q3c1, q3c2⟩ := cells3 q3
  have q3l := lt_of_block q3
  go_wp2_with fail
  refine (M2 _).mono ?_
  rintro e w1 ⟨rfl, g⟩
  clear q1c0 q1c1 q1c2 q1l
  replace q1 := (g.block _ (lt_of_block q1)).trans q1
  clear q2c0 q2c1 q2c2 q2l
  replace q2 := (g.block _ (lt_of_block q2)).trans q2
  clear q3c0 q3c1 q3c2 q3l
  replace q3 := (g.block _ (lt_of_block q3)).trans q3
  replace bel := chain bel g
  clear g
  obtain ⟨q1c0, q1c1, q1c2⟩ := cells3 q1
  have q1l := lt_of_block q1
  obtain ⟨q2c0, q2c1, q2c2⟩ := cells3 q2
  have q2l := lt_of_block q2
  obtain ⟨q3c0, q3c1, q3c2⟩ := cells3 q3
  have q3l := lt_of_block q3
  go_wp2_with fail
  go_quiet ((go_at_call 43; exact Calls.quiet_of_same (size_sz _ (by assumption) _)))
  obtain ⟨v0, hv⟩ : ∃ v, v = World.drewN w1 nq := ⟨_, rfl⟩
  have he : v0.heap = w1.heap := by rw [hv]; rfl
  have bel : Below w.heap.size w v0 := by rw [hv]; exact below_drewN bel
  rw [← hv]
  clear hv
  clear q1l q1c0 q1c1 q1c2
  rw [← he] at q1
  clear q2l q2c0 q2c1 q2c2
  rw [← he] at q2
  clear q3l q3c0 q3c1 q3c2
  rw [← he] at q3
  clear he
  obtain ⟨q1c0, q1c1, q1c2⟩ := cells3 q1
  have q1l := lt_of_block q1
  obtain ⟨q2c0, q2c1, q2c2⟩ := cells3 q2
  have q2l := lt_of_block q2
  obtain ⟨q3c0, q3c1, q3c2⟩ := cells3 q3
  have q3l := lt_of_block q3
  go_wp2_with fail
  go_quiet ((go_at_call 43; exact Calls.quiet_of_same (size_sz _ (by assumption) _)))
  obtain ⟨v1, hv⟩ : ∃ v, v = World.drewN v0 nq := ⟨_, rfl⟩
  have he : v1.heap = v0.heap := by rw [hv]; rfl
  have bel : Below w.heap.size w v1 := by rw [hv]; exact below_drewN bel
  rw [← hv]
  clear hv
  clear q1l q1c0 q1c1 q1c2
  rw [← he] at q1
  clear q2l q2c0 q2c1 q2c2
  rw [← he] at q2
  clear q3l q3c0 q3c1 q3c2
  rw [← he] at q3
  clear he
  obtain ⟨q1c0, q1c1, q1c2⟩ := cells3 q1
  have q1l := lt_of_block q1
  obtain ⟨q2c0, q2c1, q2c2⟩ := cells3 q2
  have q2l := lt_of_block q2
  obtain ⟨q3c0, q3c1, q3c2⟩ := cells3 q3
  have q3l := lt_of_block q3
  go_wp2_with fail
  refine (CAL _).mono ?_
  rintro e w9 ⟨rfl, rfl⟩
  go_wp2_with fail
  refine (RI _ _).mono ?_
  rintro e w2 ⟨rfl, g⟩
  clear q1c0 q1c1 q1c2 q1l
  replace q1 := (g.block _ (lt_of_block q1)).trans q1
  clear q2c0 q2c1 q2c2 q2l
  replace q2 := (g.block _ (lt_of_block q2)).trans q2
  clear q3c0 q3c1 q3c2 q3l
  replace q3 := (g.block _ (lt_of_block q3)).trans q3
  replace bel := chain bel g
  clear g
  obtain ⟨q1c0, q1c1, q1c2⟩ := cells3 q1
  have q1l := lt_of_block q1
  obtain ⟨q2c0, q2c1, q2c2⟩ := cells3 q2
  have q2l := lt_of_block q2
  obtain ⟨q3c0, q3c1, q3c2⟩ := cells3 q3
  have q3l := lt_of_block q3
  have fz := frozen3 q3
  go_wp2_with fail
  obtain ⟨r0, r1, r2, bel2⟩ := set3 (.int .i64 2) (.int .i64 z) (.string (str [])) q3 bel (by omega)
  refine bodyPost_ret (v := .tuple #[.agg #[.int .i64 2, .int .i64 z, .string (str [])], .int .i64 0]) (by simp [results, Try.results23, go_sem, r0, r1, r2, str_e]) rfl ⟨rfl, bel2⟩
end Go.Proofs.Ythakimgpaemfeaa
