/- Values: the law ValueUndo. Written by wip/tools/gen7m.py. -/
import Derived.Test.YthakimgpaemfeaaV07L
namespace Go.Proofs.Ythakimgpaemfeaa
open Go Go.RowKit
set_option linter.unusedVariables false
set_option linter.unusedSimpArgs false
theorem exp_int (m n : Int) : expE 2 ⟨2, m, []⟩ ⟨2, n, []⟩ = 0 := by simp [expE, mayB]
theorem opV_ok (z : Int) : opV 0 0 z = .tuple #[.agg #[.int .i64 2, .int .i64 z, .string (str [])], .int .i64 0] := rfl
theorem opV_bad (z : Int) : opV 0 8 z = .tuple #[.agg #[.int .i64 0, .int .i64 0, .string (str [])], .int .i64 8] := rfl
theorem overE_yes {n : Int} (h : fits n) : overE n = 0 := if_pos h
theorem overE_no {n : Int} (h : ¬ fits n) : overE n = 8 := if_neg h
theorem undo_mul (m n : Int) (hm : fits m) (h0 : n ≠ 0) : divN (m * n) n = m ∧ divE (m * n) n = 0 ∧ modN (m * n) n = 0 ∧ modE n = 0 := by
  refine ⟨?_, ?_, ?_, ?_⟩
  · unfold divN; rw [if_neg h0, Int.mul_tdiv_cancel _ h0, wrap64_of hm]
  · unfold divE
    rw [if_neg h0, if_neg]
    rintro ⟨rfl, h⟩
    unfold fits at hm; omega
  · unfold modN; rw [if_neg h0, Int.mul_tmod_left]
  · unfold modE; rw [if_neg h0]
theorem val_ne (k i : Int) (s : List UInt8) (w : World) : (binOp .neq 23 (.agg #[.int .i64 k, .int .i64 i, .string (str s)]) (.agg #[.int .i64 k, .int .i64 i, .string (str s)])).run Try.prog w = .ok (.bool false) w := by
  go_simp
theorem val_ne_op (op : Oper) (a : Act) (x y : Operand) (T' : TypeId) (k i : Int) (s : List UInt8) (ho : op.op = .binOp .neq 23 x y T') (hx : a.eval x = .agg #[.int .i64 k, .int .i64 i, .string (str s)]) (hy : a.eval y = .agg #[.int .i64 k, .int .i64 i, .string (str s)]) (w : World) :
    (execOp a.eval op).run Try.prog w = .ok (.value (.bool false)) w := by
  have h := val_ne k i s w
  simp only [execOp, ho, hx, hy]
  have g := val_guard
  go_simp
set_option maxRecDepth 100000 in
set_option maxHeartbeats 4000000 in
theorem undo_1_yes (m n s p : Int) (w : World) (hn : (n != 0) = true)
    (A : ∀ w, Calls Try.prog 22 #[.agg #[.int .i64 2, .int .i64 m, .string (str [])], .agg #[.int .i64 2, .int .i64 n, .string (str [])]] w fun e w' => e = .returned (.tuple #[.agg #[.int .i64 2, .int .i64 s, .string (str [])], .int .i64 0]) ∧ Below w.heap.size w w')
    (P : ∀ w, Calls Try.prog 26 #[.agg #[.int .i64 2, .int .i64 m, .string (str [])], .agg #[.int .i64 2, .int .i64 n, .string (str [])]] w fun e w' => e = .returned (.tuple #[.agg #[.int .i64 2, .int .i64 p, .string (str [])], .int .i64 0]) ∧ Below w.heap.size w w')
    (U : ∀ w, Calls Try.prog 25 #[.agg #[.int .i64 2, .int .i64 s, .string (str [])], .agg #[.int .i64 2, .int .i64 n, .string (str [])]] w fun e w' => e = .returned (.tuple #[.agg #[.int .i64 2, .int .i64 m, .string (str [])], .int .i64 0]) ∧ Below w.heap.size w w')
    (D : ∀ w, Calls Try.prog 27 #[.agg #[.int .i64 2, .int .i64 p, .string (str [])], .agg #[.int .i64 2, .int .i64 n, .string (str [])]] w fun e w' => e = .returned (.tuple #[.agg #[.int .i64 2, .int .i64 m, .string (str [])], .int .i64 0]) ∧ Below w.heap.size w w')
    (R : ∀ w, Calls Try.prog 28 #[.agg #[.int .i64 2, .int .i64 p, .string (str [])], .agg #[.int .i64 2, .int .i64 n, .string (str [])]] w fun e w' => e = .returned (.tuple #[.agg #[.int .i64 2, .int .i64 0, .string (str [])], .int .i64 0]) ∧ Below w.heap.size w w') :
    Calls Try.prog 9 #[.int .i64 m, .int .i64 n] w fun e w' => e = .returned (.bool true) ∧ Below w.heap.size w w' := by
  have I := int_any
  have AW := awake_any
  have bel := Below.refl w.heap.size w
  go_enter Try.func9, Try.ntmps9
  go_wp2_with fail
  refine (I m _).mono ?_
  rintro e w1 ⟨rfl, g⟩
  replace bel := chain bel g
  clear g
  go_wp2_with fail
  refine (I n _).mono ?_
  rintro e w2 ⟨rfl, g⟩
  replace bel := chain bel g
  clear g
  obtain ⟨qa, qb, -, -⟩ := two_allocs w2 (.cells #[.int .i64 2, .int .i64 m, .string (str [])] 23) (.cells #[.int .i64 2, .int .i64 n, .string (str [])] 23)
  replace bel := (bel.alloc bel.size (.cells #[.int .i64 2, .int .i64 m, .string (str [])] 23)).alloc (by simp; have := bel.size; omega) (.cells #[.int .i64 2, .int .i64 n, .string (str [])] 23)
  obtain ⟨qac0, qac1, qac2⟩ := cells3 qa
  have qal := lt_of_block qa
  obtain ⟨qbc0, qbc1, qbc2⟩ := cells3 qb
  have qbl := lt_of_block qb
  go_wp2_with fail
  refine (A _).mono ?_
  rintro e w3 ⟨rfl, g⟩
  clear qac0 qac1 qac2 qal
  replace qa := (g.block _ (lt_of_block qa)).trans qa
  clear qbc0 qbc1 qbc2 qbl
  replace qb := (g.block _ (lt_of_block qb)).trans qb
  replace bel := chain bel g
  clear g
  obtain ⟨qac0, qac1, qac2⟩ := cells3 qa
  have qal := lt_of_block qa
  obtain ⟨qbc0, qbc1, qbc2⟩ := cells3 qb
  have qbl := lt_of_block qb
  clear qac0 qac1 qac2 qal
  replace qa := (heap_alloc_old w3 (.cells #[.int .i64 2, .int .i64 s, .string (str [])] 23) (lt_of_block qa)).trans qa
  clear qbc0 qbc1 qbc2 qbl
  replace qb := (heap_alloc_old w3 (.cells #[.int .i64 2, .int .i64 s, .string (str [])] 23) (lt_of_block qb)).trans qb
  have qs := heap_alloc_new w3 (.cells #[.int .i64 2, .int .i64 s, .string (str [])] 23)
  replace bel := bel.alloc bel.size (.cells #[.int .i64 2, .int .i64 s, .string (str [])] 23)
  obtain ⟨qac0, qac1, qac2⟩ := cells3 qa
  have qal := lt_of_block qa
  obtain ⟨qbc0, qbc1, qbc2⟩ := cells3 qb
  have qbl := lt_of_block qb
  obtain ⟨qsc0, qsc1, qsc2⟩ := cells3 qs
  have qsl := lt_of_block qs
  go_wp2_with fail
  refine (U _).mono ?_
  rintro e w4 ⟨rfl, g⟩
  clear qac0 qac1 qac2 qal
  replace qa := (g.block _ (lt_of_block qa)).trans qa
  clear qbc0 qbc1 qbc2 qbl
  replace qb := (g.block _ (lt_of_block qb)).trans qb
  clear qsc0 qsc1 qsc2 qsl
  replace qs := (g.block _ (lt_of_block qs)).trans qs
  replace bel := chain bel g
  clear g
  obtain ⟨qac0, qac1, qac2⟩ := cells3 qa
  have qal := lt_of_block qa
  obtain ⟨qbc0, qbc1, qbc2⟩ := cells3 qb
  have qbl := lt_of_block qb
  obtain ⟨qsc0, qsc1, qsc2⟩ := cells3 qs
  have qsl := lt_of_block qs
  clear qs qsl qsc0 qsc1 qsc2
  clear qac0 qac1 qac2 qal
  replace qa := (heap_alloc_old w4 (.cells #[.int .i64 2, .int .i64 m, .string (str [])] 23) (lt_of_block qa)).trans qa
  clear qbc0 qbc1 qbc2 qbl
  replace qb := (heap_alloc_old w4 (.cells #[.int .i64 2, .int .i64 m, .string (str [])] 23) (lt_of_block qb)).trans qb
  have qd := heap_alloc_new w4 (.cells #[.int .i64 2, .int .i64 m, .string (str [])] 23)
  replace bel := bel.alloc bel.size (.cells #[.int .i64 2, .int .i64 m, .string (str [])] 23)
  obtain ⟨qac0, qac1, qac2⟩ := cells3 qa
  have qal := lt_of_block qa
  obtain ⟨qbc0, qbc1, qbc2⟩ := cells3 qb
  have qbl := lt_of_block qb
  obtain ⟨qdc0, qdc1, qdc2⟩ := cells3 qd
  have qdl := lt_of_block qd
  go_wp2_with fail
  refine (P _).mono ?_
  rintro e w5 ⟨rfl, g⟩
  clear qac0 qac1 qac2 qal
  replace qa := (g.block _ (lt_of_block qa)).trans qa
  clear qbc0 qbc1 qbc2 qbl
  replace qb := (g.block _ (lt_of_block qb)).trans qb
  clear qdc0 qdc1 qdc2 qdl
  replace qd := (g.block _ (lt_of_block qd)).trans qd
  replace bel := chain bel g
  clear g
  obtain ⟨qac0, qac1, qac2⟩ := cells3 qa
  have qal := lt_of_block qa
  obtain ⟨qbc0, qbc1, qbc2⟩ := cells3 qb
  have qbl := lt_of_block qb
  obtain ⟨qdc0, qdc1, qdc2⟩ := cells3 qd
  have qdl := lt_of_block qd
  clear qd qdl qdc0 qdc1 qdc2
  clear qac0 qac1 qac2 qal
  replace qa := (heap_alloc_old w5 (.cells #[.int .i64 2, .int .i64 p, .string (str [])] 23) (lt_of_block qa)).trans qa
  clear qbc0 qbc1 qbc2 qbl
  replace qb := (heap_alloc_old w5 (.cells #[.int .i64 2, .int .i64 p, .string (str [])] 23) (lt_of_block qb)).trans qb
  have qp := heap_alloc_new w5 (.cells #[.int .i64 2, .int .i64 p, .string (str [])] 23)
  replace bel := bel.alloc bel.size (.cells #[.int .i64 2, .int .i64 p, .string (str [])] 23)
  obtain ⟨qac0, qac1, qac2⟩ := cells3 qa
  have qal := lt_of_block qa
  obtain ⟨qbc0, qbc1, qbc2⟩ := cells3 qb
  have qbl := lt_of_block qb
  obtain ⟨qpc0, qpc1, qpc2⟩ := cells3 qp
  have qpl := lt_of_block qp
  go_wp2_with fail
  refine (D _).mono ?_
  rintro e w6 ⟨rfl, g⟩
  clear qac0 qac1 qac2 qal
  replace qa := (g.block _ (lt_of_block qa)).trans qa
  clear qbc0 qbc1 qbc2 qbl
  replace qb := (g.block _ (lt_of_block qb)).trans qb
  clear qpc0 qpc1 qpc2 qpl
  replace qp := (g.block _ (lt_of_block qp)).trans qp
  replace bel := chain bel g
  clear g
  obtain ⟨qac0, qac1, qac2⟩ := cells3 qa
  have qal := lt_of_block qa
  obtain ⟨qbc0, qbc1, qbc2⟩ := cells3 qb
  have qbl := lt_of_block qb
  obtain ⟨qpc0, qpc1, qpc2⟩ := cells3 qp
  have qpl := lt_of_block qp
  clear qac0 qac1 qac2 qal
  replace qa := (heap_alloc_old w6 (.cells #[.int .i64 2, .int .i64 m, .string (str [])] 23) (lt_of_block qa)).trans qa
  clear qbc0 qbc1 qbc2 qbl
  replace qb := (heap_alloc_old w6 (.cells #[.int .i64 2, .int .i64 m, .string (str [])] 23) (lt_of_block qb)).trans qb
  clear qpc0 qpc1 qpc2 qpl
  replace qp := (heap_alloc_old w6 (.cells #[.int .i64 2, .int .i64 m, .string (str [])] 23) (lt_of_block qp)).trans qp
  have qq := heap_alloc_new w6 (.cells #[.int .i64 2, .int .i64 m, .string (str [])] 23)
  replace bel := bel.alloc bel.size (.cells #[.int .i64 2, .int .i64 m, .string (str [])] 23)
  obtain ⟨qac0, qac1, qac2⟩ := cells3 qa
  have qal := lt_of_block qa
  obtain ⟨qbc0, qbc1, qbc2⟩ := cells3 qb
  have qbl := lt_of_block qb
  obtain ⟨qpc0, qpc1, qpc2⟩ := cells3 qp
  have qpl := lt_of_block qp
  obtain ⟨qqc0, qqc1, qqc2⟩ := cells3 qq
  have qql := lt_of_block qq
  go_wp2_with fail
  refine (R _).mono ?_
  rintro e w7 ⟨rfl, g⟩
  clear qac0 qac1 qac2 qal
  replace qa := (g.block _ (lt_of_block qa)).trans qa
  clear qbc0 qbc1 qbc2 qbl
  replace qb := (g.block _ (lt_of_block qb)).trans qb
  clear qpc0 qpc1 qpc2 qpl
  replace qp := (g.block _ (lt_of_block qp)).trans qp
  clear qqc0 qqc1 qqc2 qql
  replace qq := (g.block _ (lt_of_block qq)).trans qq
  replace bel := chain bel g
  clear g
  obtain ⟨qac0, qac1, qac2⟩ := cells3 qa
  have qal := lt_of_block qa
  obtain ⟨qbc0, qbc1, qbc2⟩ := cells3 qb
  have qbl := lt_of_block qb
  obtain ⟨qpc0, qpc1, qpc2⟩ := cells3 qp
  have qpl := lt_of_block qp
  obtain ⟨qqc0, qqc1, qqc2⟩ := cells3 qq
  have qql := lt_of_block qq
  clear qac0 qac1 qac2 qal
  replace qa := (heap_alloc_old w7 (.cells #[.int .i64 2, .int .i64 0, .string (str [])] 23) (lt_of_block qa)).trans qa
  clear qbc0 qbc1 qbc2 qbl
  replace qb := (heap_alloc_old w7 (.cells #[.int .i64 2, .int .i64 0, .string (str [])] 23) (lt_of_block qb)).trans qb
  clear qpc0 qpc1 qpc2 qpl
  replace qp := (heap_alloc_old w7 (.cells #[.int .i64 2, .int .i64 0, .string (str [])] 23) (lt_of_block qp)).trans qp
  clear qqc0 qqc1 qqc2 qql
  replace qq := (heap_alloc_old w7 (.cells #[.int .i64 2, .int .i64 0, .string (str [])] 23) (lt_of_block qq)).trans qq
  have qr := heap_alloc_new w7 (.cells #[.int .i64 2, .int .i64 0, .string (str [])] 23)
  replace bel := bel.alloc bel.size (.cells #[.int .i64 2, .int .i64 0, .string (str [])] 23)
  obtain ⟨qac0, qac1, qac2⟩ := cells3 qa
  have qal := lt_of_block qa
  obtain ⟨qbc0, qbc1, qbc2⟩ := cells3 qb
  have qbl := lt_of_block qb
  obtain ⟨qpc0, qpc1, qpc2⟩ := cells3 qp
  have qpl := lt_of_block qp
  obtain ⟨qqc0, qqc1, qqc2⟩ := cells3 qq
  have qql := lt_of_block qq
  obtain ⟨qrc0, qrc1, qrc2⟩ := cells3 qr
  have qrl := lt_of_block qr
  go_wp2_with fail
  clear qac0 qac1 qac2 qal
  clear qbc0 qbc1 qbc2 qbl
  clear qpc0 qpc1 qpc2 qpl
  clear qqc0 qqc1 qqc2 qql
  clear qrc0 qrc1 qrc2 qrl
  clear A P D R qb qp U
  have bel := below_drewN (k := 1) bel
  refine g_start (by kernel_rfl) ?_
  refine g_take (i := 0) (d := (some 65)) (v := ?_) rfl rfl (by kernel_rfl) (fun _ _ _ h => h) (by rfl) (fun w' hb' => ?_) ?_
  rotate_left
  · have zz := (hb'.block _ (lt_of_block qq)).trans qq; obtain ⟨c0, c1, c2⟩ := cells3 zz; (try go_simp); (try with_reducible rfl)
  try simp only [Act.put, List.setIfInBounds_toArray, List.set_cons_zero, List.set_cons_succ]
  refine g_take (i := 1) (d := (some 66)) (v := ?_) rfl rfl (by kernel_rfl) (fun _ _ _ h => h) (by rfl) (fun w' hb' => ?_) ?_
  rotate_left
  · have zz := (hb'.block _ (lt_of_block qa)).trans qa; obtain ⟨c0, c1, c2⟩ := cells3 zz; (try go_simp); (try with_reducible rfl)
  try simp only [Act.put, List.setIfInBounds_toArray, List.set_cons_zero, List.set_cons_succ]
  refine g_take (i := 2) (d := (some 67)) (v := ?_) rfl rfl (by kernel_rfl) (fun _ _ _ h => h) (by rfl) (fun w' hb' => ?_) ?_
  rotate_left
  · (refine val_ne_op _ _ (.tmp 65) (.tmp 66) 23 2 m [] ?_ ?_ ?_ w' <;> rfl); (try go_simp); (try with_reducible rfl)
  try simp only [Act.put, List.setIfInBounds_toArray, List.set_cons_zero, List.set_cons_succ]
  refine g_take (i := 3) (d := (some 68)) (v := ?_) rfl rfl (by kernel_rfl) (fun _ _ _ h => h) (by rfl) (fun w' hb' => ?_) ?_
  rotate_left
  · (try go_simp); (try with_reducible rfl)
  try simp only [Act.put, List.setIfInBounds_toArray, List.set_cons_zero, List.set_cons_succ]
  refine g_take (i := 4) (d := (some 69)) (v := ?_) rfl rfl (by kernel_rfl) (fun _ _ _ h => h) (by rfl) (fun w' hb' => ?_) ?_
  rotate_left
  · (try go_simp); (try with_reducible rfl)
  try simp only [Act.put, List.setIfInBounds_toArray, List.set_cons_zero, List.set_cons_succ]
  refine g_take (i := 5) (d := (some 70)) (v := ?_) rfl rfl (by kernel_rfl) (fun _ _ _ h => h) (by rfl) (fun w' hb' => ?_) ?_
  rotate_left
  · (try go_simp); (try with_reducible rfl)
  try simp only [Act.put, List.setIfInBounds_toArray, List.set_cons_zero, List.set_cons_succ]
  refine g_take (i := 6) (d := (some 71)) (v := ?_) rfl rfl (by kernel_rfl) (fun _ _ _ h => h) (by rfl) (fun w' hb' => ?_) ?_
  rotate_left
  · (try go_simp); (try with_reducible rfl)
  try simp only [Act.put, List.setIfInBounds_toArray, List.set_cons_zero, List.set_cons_succ]
  refine g_take (i := 7) (d := (some 72)) (v := ?_) rfl rfl (by kernel_rfl) (fun _ _ _ h => h) (by rfl) (fun w' hb' => ?_) ?_
  rotate_left
  · (try go_simp); (try with_reducible rfl)
  try simp only [Act.put, List.setIfInBounds_toArray, List.set_cons_zero, List.set_cons_succ]
  refine g_take (i := 8) (d := (some 73)) (v := ?_) rfl rfl (by kernel_rfl) (fun _ _ _ h => h) (by rfl) (fun w' hb' => ?_) ?_
  rotate_left
  · have zz := (hb'.block _ (lt_of_block qr)).trans qr; obtain ⟨c0, c1, c2⟩ := cells3 zz; (try go_simp); (try with_reducible rfl)
  try simp only [Act.put, List.setIfInBounds_toArray, List.set_cons_zero, List.set_cons_succ]
  refine g_run (i := 9) rfl (by kernel_rfl) (by rfl) (fun K hK => ?_)
  go_simp
  refine (I 0 _).mono ?_
  rintro e x1 ⟨rfl, gg⟩
  have qa := (gg.block _ (lt_of_block qa)).trans qa
  have qq := (gg.block _ (lt_of_block qq)).trans qq
  have qr := (gg.block _ (lt_of_block qr)).trans qr
  have bel := chain bel gg
  refine hK _ _ ⟨gg, ?_⟩
  clear hK K gg
  try simp only [Act.put, List.setIfInBounds_toArray, List.set_cons_zero, List.set_cons_succ]
  refine g_take (i := 10) (d := (some 75)) (v := ?_) rfl rfl (by kernel_rfl) (fun _ _ _ h => h) (by rfl) (fun w' hb' => ?_) ?_
  rotate_left
  · (refine val_ne_op _ _ (.tmp 73) (.tmp 74) 23 2 0 [] ?_ ?_ ?_ w' <;> rfl); (try go_simp); (try with_reducible rfl)
  try simp only [Act.put, List.setIfInBounds_toArray, List.set_cons_zero, List.set_cons_succ]
  refine g_take (i := 11) (d := (some 76)) (v := ?_) rfl rfl (by kernel_rfl) (fun _ _ _ h => h) (by rfl) (fun w' hb' => ?_) ?_
  rotate_left
  · (try go_simp); (try with_reducible rfl)
  try simp only [Act.put, List.setIfInBounds_toArray, List.set_cons_zero, List.set_cons_succ]
  refine g_take (i := 12) (d := (some 77)) (v := ?_) rfl rfl (by kernel_rfl) (fun _ _ _ h => h) (by rfl) (fun w' hb' => ?_) ?_
  rotate_left
  · (try go_simp); (try with_reducible rfl)
  try simp only [Act.put, List.setIfInBounds_toArray, List.set_cons_zero, List.set_cons_succ]
  refine g_take (i := 13) (d := (some 78)) (v := ?_) rfl rfl (by kernel_rfl) (fun _ _ _ h => h) (by rfl) (fun w' hb' => ?_) ?_
  rotate_left
  · (try go_simp); (try with_reducible rfl)
  try simp only [Act.put, List.setIfInBounds_toArray, List.set_cons_zero, List.set_cons_succ]
  refine g_take (i := 14) (d := (some 79)) (v := ?_) rfl rfl (by kernel_rfl) (fun _ _ _ h => h) (by rfl) (fun w' hb' => ?_) ?_
  rotate_left
  · (try go_simp); (try with_reducible rfl)
  try simp only [Act.put, List.setIfInBounds_toArray, List.set_cons_zero, List.set_cons_succ]
  refine g_take (i := 15) (d := (some 80)) (v := ?_) rfl rfl (by kernel_rfl) (fun _ _ _ h => h) (by rfl) (fun w' hb' => ?_) ?_
  rotate_left
  · (try go_simp); (try with_reducible rfl)
  try simp only [Act.put, List.setIfInBounds_toArray, List.set_cons_zero, List.set_cons_succ]
  refine g_done (by kernel_rfl) ?_
  go_wp2_with fail
  refine (AW _).mono ?_
  rintro e wz ⟨rfl, g⟩
  replace bel := chain bel g
  go_wp2_with fail
  go_ret
  exact ⟨rfl, bel⟩
set_option maxRecDepth 100000 in
set_option maxHeartbeats 4000000 in
theorem undo_1_zero (m n s p : Int) (w : World) (hn : (n != 0) = false)
    (A : ∀ w, Calls Try.prog 22 #[.agg #[.int .i64 2, .int .i64 m, .string (str [])], .agg #[.int .i64 2, .int .i64 n, .string (str [])]] w fun e w' => e = .returned (.tuple #[.agg #[.int .i64 2, .int .i64 s, .string (str [])], .int .i64 0]) ∧ Below w.heap.size w w')
    (P : ∀ w, Calls Try.prog 26 #[.agg #[.int .i64 2, .int .i64 m, .string (str [])], .agg #[.int .i64 2, .int .i64 n, .string (str [])]] w fun e w' => e = .returned (.tuple #[.agg #[.int .i64 2, .int .i64 p, .string (str [])], .int .i64 0]) ∧ Below w.heap.size w w')
    (U : ∀ w, Calls Try.prog 25 #[.agg #[.int .i64 2, .int .i64 s, .string (str [])], .agg #[.int .i64 2, .int .i64 n, .string (str [])]] w fun e w' => e = .returned (.tuple #[.agg #[.int .i64 2, .int .i64 m, .string (str [])], .int .i64 0]) ∧ Below w.heap.size w w') :
    Calls Try.prog 9 #[.int .i64 m, .int .i64 n] w fun e w' => e = .returned (.bool true) ∧ Below w.heap.size w w' := by
  have I := int_any
  have AW := awake_any
  have bel := Below.refl w.heap.size w
  go_enter Try.func9, Try.ntmps9
  go_wp2_with fail
  refine (I m _).mono ?_
  rintro e w1 ⟨rfl, g⟩
  replace bel := chain bel g
  clear g
  go_wp2_with fail
  refine (I n _).mono ?_
  rintro e w2 ⟨rfl, g⟩
  replace bel := chain bel g
  clear g
  obtain ⟨qa, qb, -, -⟩ := two_allocs w2 (.cells #[.int .i64 2, .int .i64 m, .string (str [])] 23) (.cells #[.int .i64 2, .int .i64 n, .string (str [])] 23)
  replace bel := (bel.alloc bel.size (.cells #[.int .i64 2, .int .i64 m, .string (str [])] 23)).alloc (by simp; have := bel.size; omega) (.cells #[.int .i64 2, .int .i64 n, .string (str [])] 23)
  obtain ⟨qac0, qac1, qac2⟩ := cells3 qa
  have qal := lt_of_block qa
  obtain ⟨qbc0, qbc1, qbc2⟩ := cells3 qb
  have qbl := lt_of_block qb
  go_wp2_with fail
  refine (A _).mono ?_
  rintro e w3 ⟨rfl, g⟩
  clear qac0 qac1 qac2 qal
  replace qa := (g.block _ (lt_of_block qa)).trans qa
  clear qbc0 qbc1 qbc2 qbl
  replace qb := (g.block _ (lt_of_block qb)).trans qb
  replace bel := chain bel g
  clear g
  obtain ⟨qac0, qac1, qac2⟩ := cells3 qa
  have qal := lt_of_block qa
  obtain ⟨qbc0, qbc1, qbc2⟩ := cells3 qb
  have qbl := lt_of_block qb
  clear qac0 qac1 qac2 qal
  replace qa := (heap_alloc_old w3 (.cells #[.int .i64 2, .int .i64 s, .string (str [])] 23) (lt_of_block qa)).trans qa
  clear qbc0 qbc1 qbc2 qbl
  replace qb := (heap_alloc_old w3 (.cells #[.int .i64 2, .int .i64 s, .string (str [])] 23) (lt_of_block qb)).trans qb
  have qs := heap_alloc_new w3 (.cells #[.int .i64 2, .int .i64 s, .string (str [])] 23)
  replace bel := bel.alloc bel.size (.cells #[.int .i64 2, .int .i64 s, .string (str [])] 23)
  obtain ⟨qac0, qac1, qac2⟩ := cells3 qa
  have qal := lt_of_block qa
  obtain ⟨qbc0, qbc1, qbc2⟩ := cells3 qb
  have qbl := lt_of_block qb
  obtain ⟨qsc0, qsc1, qsc2⟩ := cells3 qs
  have qsl := lt_of_block qs
  go_wp2_with fail
  refine (U _).mono ?_
  rintro e w4 ⟨rfl, g⟩
  clear qac0 qac1 qac2 qal
  replace qa := (g.block _ (lt_of_block qa)).trans qa
  clear qbc0 qbc1 qbc2 qbl
  replace qb := (g.block _ (lt_of_block qb)).trans qb
  clear qsc0 qsc1 qsc2 qsl
  replace qs := (g.block _ (lt_of_block qs)).trans qs
  replace bel := chain bel g
  clear g
  obtain ⟨qac0, qac1, qac2⟩ := cells3 qa
  have qal := lt_of_block qa
  obtain ⟨qbc0, qbc1, qbc2⟩ := cells3 qb
  have qbl := lt_of_block qb
  obtain ⟨qsc0, qsc1, qsc2⟩ := cells3 qs
  have qsl := lt_of_block qs
  clear qs qsl qsc0 qsc1 qsc2
  clear qac0 qac1 qac2 qal
  replace qa := (heap_alloc_old w4 (.cells #[.int .i64 2, .int .i64 m, .string (str [])] 23) (lt_of_block qa)).trans qa
  clear qbc0 qbc1 qbc2 qbl
  replace qb := (heap_alloc_old w4 (.cells #[.int .i64 2, .int .i64 m, .string (str [])] 23) (lt_of_block qb)).trans qb
  have qd := heap_alloc_new w4 (.cells #[.int .i64 2, .int .i64 m, .string (str [])] 23)
  replace bel := bel.alloc bel.size (.cells #[.int .i64 2, .int .i64 m, .string (str [])] 23)
  obtain ⟨qac0, qac1, qac2⟩ := cells3 qa
  have qal := lt_of_block qa
  obtain ⟨qbc0, qbc1, qbc2⟩ := cells3 qb
  have qbl := lt_of_block qb
  obtain ⟨qdc0, qdc1, qdc2⟩ := cells3 qd
  have qdl := lt_of_block qd
  go_wp2_with fail
  refine (P _).mono ?_
  rintro e w5 ⟨rfl, g⟩
  clear qac0 qac1 qac2 qal
  replace qa := (g.block _ (lt_of_block qa)).trans qa
  clear qbc0 qbc1 qbc2 qbl
  replace qb := (g.block _ (lt_of_block qb)).trans qb
  clear qdc0 qdc1 qdc2 qdl
  replace qd := (g.block _ (lt_of_block qd)).trans qd
  replace bel := chain bel g
  clear g
  obtain ⟨qac0, qac1, qac2⟩ := cells3 qa
  have qal := lt_of_block qa
  obtain ⟨qbc0, qbc1, qbc2⟩ := cells3 qb
  have qbl := lt_of_block qb
  obtain ⟨qdc0, qdc1, qdc2⟩ := cells3 qd
  have qdl := lt_of_block qd
  clear qd qdl qdc0 qdc1 qdc2
  clear qac0 qac1 qac2 qal
  replace qa := (heap_alloc_old w5 (.cells #[.int .i64 2, .int .i64 p, .string (str [])] 23) (lt_of_block qa)).trans qa
  clear qbc0 qbc1 qbc2 qbl
  replace qb := (heap_alloc_old w5 (.cells #[.int .i64 2, .int .i64 p, .string (str [])] 23) (lt_of_block qb)).trans qb
  have qp := heap_alloc_new w5 (.cells #[.int .i64 2, .int .i64 p, .string (str [])] 23)
  replace bel := bel.alloc bel.size (.cells #[.int .i64 2, .int .i64 p, .string (str [])] 23)
  obtain ⟨qac0, qac1, qac2⟩ := cells3 qa
  have qal := lt_of_block qa
  obtain ⟨qbc0, qbc1, qbc2⟩ := cells3 qb
  have qbl := lt_of_block qb
  obtain ⟨qpc0, qpc1, qpc2⟩ := cells3 qp
  have qpl := lt_of_block qp
  go_wp2_with fail
  refine (AW _).mono ?_
  rintro e wz ⟨rfl, g⟩
  replace bel := chain bel g
  go_wp2_with fail
  go_ret
  exact ⟨rfl, bel⟩
set_option maxRecDepth 100000 in
set_option maxHeartbeats 4000000 in
theorem undo_1_no (m n s p : Int) (w : World) 
    (A : ∀ w, Calls Try.prog 22 #[.agg #[.int .i64 2, .int .i64 m, .string (str [])], .agg #[.int .i64 2, .int .i64 n, .string (str [])]] w fun e w' => e = .returned (.tuple #[.agg #[.int .i64 2, .int .i64 s, .string (str [])], .int .i64 0]) ∧ Below w.heap.size w w')
    (P : ∀ w, Calls Try.prog 26 #[.agg #[.int .i64 2, .int .i64 m, .string (str [])], .agg #[.int .i64 2, .int .i64 n, .string (str [])]] w fun e w' => e = .returned (.tuple #[.agg #[.int .i64 0, .int .i64 0, .string (str [])], .int .i64 8]) ∧ Below w.heap.size w w')
    (U : ∀ w, Calls Try.prog 25 #[.agg #[.int .i64 2, .int .i64 s, .string (str [])], .agg #[.int .i64 2, .int .i64 n, .string (str [])]] w fun e w' => e = .returned (.tuple #[.agg #[.int .i64 2, .int .i64 m, .string (str [])], .int .i64 0]) ∧ Below w.heap.size w w') :
    Calls Try.prog 9 #[.int .i64 m, .int .i64 n] w fun e w' => e = .returned (.bool true) ∧ Below w.heap.size w w' := by
  have I := int_any
  have AW := awake_any
  have bel := Below.refl w.heap.size w
  go_enter Try.func9, Try.ntmps9
  go_wp2_with fail
  refine (I m _).mono ?_
  rintro e w1 ⟨rfl, g⟩
  replace bel := chain bel g
  clear g
  go_wp2_with fail
  refine (I n _).mono ?_
  rintro e w2 ⟨rfl, g⟩
  replace bel := chain bel g
  clear g
  obtain ⟨qa, qb, -, -⟩ := two_allocs w2 (.cells #[.int .i64 2, .int .i64 m, .string (str [])] 23) (.cells #[.int .i64 2, .int .i64 n, .string (str [])] 23)
  replace bel := (bel.alloc bel.size (.cells #[.int .i64 2, .int .i64 m, .string (str [])] 23)).alloc (by simp; have := bel.size; omega) (.cells #[.int .i64 2, .int .i64 n, .string (str [])] 23)
  obtain ⟨qac0, qac1, qac2⟩ := cells3 qa
  have qal := lt_of_block qa
  obtain ⟨qbc0, qbc1, qbc2⟩ := cells3 qb
  have qbl := lt_of_block qb
  go_wp2_with fail
  refine (A _).mono ?_
  rintro e w3 ⟨rfl, g⟩
  clear qac0 qac1 qac2 qal
  replace qa := (g.block _ (lt_of_block qa)).trans qa
  clear qbc0 qbc1 qbc2 qbl
  replace qb := (g.block _ (lt_of_block qb)).trans qb
  replace bel := chain bel g
  clear g
  obtain ⟨qac0, qac1, qac2⟩ := cells3 qa
  have qal := lt_of_block qa
  obtain ⟨qbc0, qbc1, qbc2⟩ := cells3 qb
  have qbl := lt_of_block qb
  clear qac0 qac1 qac2 qal
  replace qa := (heap_alloc_old w3 (.cells #[.int .i64 2, .int .i64 s, .string (str [])] 23) (lt_of_block qa)).trans qa
  clear qbc0 qbc1 qbc2 qbl
  replace qb := (heap_alloc_old w3 (.cells #[.int .i64 2, .int .i64 s, .string (str [])] 23) (lt_of_block qb)).trans qb
  have qs := heap_alloc_new w3 (.cells #[.int .i64 2, .int .i64 s, .string (str [])] 23)
  replace bel := bel.alloc bel.size (.cells #[.int .i64 2, .int .i64 s, .string (str [])] 23)
  obtain ⟨qac0, qac1, qac2⟩ := cells3 qa
  have qal := lt_of_block qa
  obtain ⟨qbc0, qbc1, qbc2⟩ := cells3 qb
  have qbl := lt_of_block qb
  obtain ⟨qsc0, qsc1, qsc2⟩ := cells3 qs
  have qsl := lt_of_block qs
  go_wp2_with fail
  refine (U _).mono ?_
  rintro e w4 ⟨rfl, g⟩
  clear qac0 qac1 qac2 qal
  replace qa := (g.block _ (lt_of_block qa)).trans qa
  clear qbc0 qbc1 qbc2 qbl
  replace qb := (g.block _ (lt_of_block qb)).trans qb
  clear qsc0 qsc1 qsc2 qsl
  replace qs := (g.block _ (lt_of_block qs)).trans qs
  replace bel := chain bel g
  clear g
  obtain ⟨qac0, qac1, qac2⟩ := cells3 qa
  have qal := lt_of_block qa
  obtain ⟨qbc0, qbc1, qbc2⟩ := cells3 qb
  have qbl := lt_of_block qb
  obtain ⟨qsc0, qsc1, qsc2⟩ := cells3 qs
  have qsl := lt_of_block qs
  clear qs qsl qsc0 qsc1 qsc2
  clear qac0 qac1 qac2 qal
  replace qa := (heap_alloc_old w4 (.cells #[.int .i64 2, .int .i64 m, .string (str [])] 23) (lt_of_block qa)).trans qa
  clear qbc0 qbc1 qbc2 qbl
  replace qb := (heap_alloc_old w4 (.cells #[.int .i64 2, .int .i64 m, .string (str [])] 23) (lt_of_block qb)).trans qb
  have qd := heap_alloc_new w4 (.cells #[.int .i64 2, .int .i64 m, .string (str [])] 23)
  replace bel := bel.alloc bel.size (.cells #[.int .i64 2, .int .i64 m, .string (str [])] 23)
  obtain ⟨qac0, qac1, qac2⟩ := cells3 qa
  have qal := lt_of_block qa
  obtain ⟨qbc0, qbc1, qbc2⟩ := cells3 qb
  have qbl := lt_of_block qb
  obtain ⟨qdc0, qdc1, qdc2⟩ := cells3 qd
  have qdl := lt_of_block qd
  go_wp2_with fail
  refine (P _).mono ?_
  rintro e w5 ⟨rfl, g⟩
  clear qac0 qac1 qac2 qal
  replace qa := (g.block _ (lt_of_block qa)).trans qa
  clear qbc0 qbc1 qbc2 qbl
  replace qb := (g.block _ (lt_of_block qb)).trans qb
  clear qdc0 qdc1 qdc2 qdl
  replace qd := (g.block _ (lt_of_block qd)).trans qd
  replace bel := chain bel g
  clear g
  obtain ⟨qac0, qac1, qac2⟩ := cells3 qa
  have qal := lt_of_block qa
  obtain ⟨qbc0, qbc1, qbc2⟩ := cells3 qb
  have qbl := lt_of_block qb
  obtain ⟨qdc0, qdc1, qdc2⟩ := cells3 qd
  have qdl := lt_of_block qd
  clear qd qdl qdc0 qdc1 qdc2
  clear qac0 qac1 qac2 qal
  replace qa := (heap_alloc_old w5 (.cells #[.int .i64 0, .int .i64 0, .string (str [])] 23) (lt_of_block qa)).trans qa
  clear qbc0 qbc1 qbc2 qbl
  replace qb := (heap_alloc_old w5 (.cells #[.int .i64 0, .int .i64 0, .string (str [])] 23) (lt_of_block qb)).trans qb
  have qp := heap_alloc_new w5 (.cells #[.int .i64 0, .int .i64 0, .string (str [])] 23)
  replace bel := bel.alloc bel.size (.cells #[.int .i64 0, .int .i64 0, .string (str [])] 23)
  obtain ⟨qac0, qac1, qac2⟩ := cells3 qa
  have qal := lt_of_block qa
  obtain ⟨qbc0, qbc1, qbc2⟩ := cells3 qb
  have qbl := lt_of_block qb
  obtain ⟨qpc0, qpc1, qpc2⟩ := cells3 qp
  have qpl := lt_of_block qp
  go_wp2_with fail
  refine (AW _).mono ?_
  rintro e wz ⟨rfl, g⟩
  replace bel := chain bel g
  go_wp2_with fail
  go_ret
  exact ⟨rfl, bel⟩
set_option maxRecDepth 100000 in
set_option maxHeartbeats 4000000 in
theorem undo_0_yes (m n s p : Int) (w : World) (hn : (n != 0) = true)
    (A : ∀ w, Calls Try.prog 22 #[.agg #[.int .i64 2, .int .i64 m, .string (str [])], .agg #[.int .i64 2, .int .i64 n, .string (str [])]] w fun e w' => e = .returned (.tuple #[.agg #[.int .i64 0, .int .i64 0, .string (str [])], .int .i64 8]) ∧ Below w.heap.size w w')
    (P : ∀ w, Calls Try.prog 26 #[.agg #[.int .i64 2, .int .i64 m, .string (str [])], .agg #[.int .i64 2, .int .i64 n, .string (str [])]] w fun e w' => e = .returned (.tuple #[.agg #[.int .i64 2, .int .i64 p, .string (str [])], .int .i64 0]) ∧ Below w.heap.size w w')
    (D : ∀ w, Calls Try.prog 27 #[.agg #[.int .i64 2, .int .i64 p, .string (str [])], .agg #[.int .i64 2, .int .i64 n, .string (str [])]] w fun e w' => e = .returned (.tuple #[.agg #[.int .i64 2, .int .i64 m, .string (str [])], .int .i64 0]) ∧ Below w.heap.size w w')
    (R : ∀ w, Calls Try.prog 28 #[.agg #[.int .i64 2, .int .i64 p, .string (str [])], .agg #[.int .i64 2, .int .i64 n, .string (str [])]] w fun e w' => e = .returned (.tuple #[.agg #[.int .i64 2, .int .i64 0, .string (str [])], .int .i64 0]) ∧ Below w.heap.size w w') :
    Calls Try.prog 9 #[.int .i64 m, .int .i64 n] w fun e w' => e = .returned (.bool true) ∧ Below w.heap.size w w' := by
  have I := int_any
  have AW := awake_any
  have bel := Below.refl w.heap.size w
  go_enter Try.func9, Try.ntmps9
  go_wp2_with fail
  refine (I m _).mono ?_
  rintro e w1 ⟨rfl, g⟩
  replace bel := chain bel g
  clear g
  go_wp2_with fail
  refine (I n _).mono ?_
  rintro e w2 ⟨rfl, g⟩
  replace bel := chain bel g
  clear g
  obtain ⟨qa, qb, -, -⟩ := two_allocs w2 (.cells #[.int .i64 2, .int .i64 m, .string (str [])] 23) (.cells #[.int .i64 2, .int .i64 n, .string (str [])] 23)
  replace bel := (bel.alloc bel.size (.cells #[.int .i64 2, .int .i64 m, .string (str [])] 23)).alloc (by simp; have := bel.size; omega) (.cells #[.int .i64 2, .int .i64 n, .string (str [])] 23)
  obtain ⟨qac0, qac1, qac2⟩ := cells3 qa
  have qal := lt_of_block qa
  obtain ⟨qbc0, qbc1, qbc2⟩ := cells3 qb
  have qbl := lt_of_block qb
  go_wp2_with fail
  refine (A _).mono ?_
  rintro e w3 ⟨rfl, g⟩
  clear qac0 qac1 qac2 qal
  replace qa := (g.block _ (lt_of_block qa)).trans qa
  clear qbc0 qbc1 qbc2 qbl
  replace qb := (g.block _ (lt_of_block qb)).trans qb
  replace bel := chain bel g
  clear g
  obtain ⟨qac0, qac1, qac2⟩ := cells3 qa
  have qal := lt_of_block qa
  obtain ⟨qbc0, qbc1, qbc2⟩ := cells3 qb
  have qbl := lt_of_block qb
  clear qac0 qac1 qac2 qal
  replace qa := (heap_alloc_old w3 (.cells #[.int .i64 0, .int .i64 0, .string (str [])] 23) (lt_of_block qa)).trans qa
  clear qbc0 qbc1 qbc2 qbl
  replace qb := (heap_alloc_old w3 (.cells #[.int .i64 0, .int .i64 0, .string (str [])] 23) (lt_of_block qb)).trans qb
  have qs := heap_alloc_new w3 (.cells #[.int .i64 0, .int .i64 0, .string (str [])] 23)
  replace bel := bel.alloc bel.size (.cells #[.int .i64 0, .int .i64 0, .string (str [])] 23)
  obtain ⟨qac0, qac1, qac2⟩ := cells3 qa
  have qal := lt_of_block qa
  obtain ⟨qbc0, qbc1, qbc2⟩ := cells3 qb
  have qbl := lt_of_block qb
  obtain ⟨qsc0, qsc1, qsc2⟩ := cells3 qs
  have qsl := lt_of_block qs
  go_wp2_with fail
  refine (P _).mono ?_
  rintro e w4 ⟨rfl, g⟩
  clear qac0 qac1 qac2 qal
  replace qa := (g.block _ (lt_of_block qa)).trans qa
  clear qbc0 qbc1 qbc2 qbl
  replace qb := (g.block _ (lt_of_block qb)).trans qb
  clear qsc0 qsc1 qsc2 qsl
  replace qs := (g.block _ (lt_of_block qs)).trans qs
  replace bel := chain bel g
  clear g
  obtain ⟨qac0, qac1, qac2⟩ := cells3 qa
  have qal := lt_of_block qa
  obtain ⟨qbc0, qbc1, qbc2⟩ := cells3 qb
  have qbl := lt_of_block qb
  obtain ⟨qsc0, qsc1, qsc2⟩ := cells3 qs
  have qsl := lt_of_block qs
  clear qs qsl qsc0 qsc1 qsc2
  clear qac0 qac1 qac2 qal
  replace qa := (heap_alloc_old w4 (.cells #[.int .i64 2, .int .i64 p, .string (str [])] 23) (lt_of_block qa)).trans qa
  clear qbc0 qbc1 qbc2 qbl
  replace qb := (heap_alloc_old w4 (.cells #[.int .i64 2, .int .i64 p, .string (str [])] 23) (lt_of_block qb)).trans qb
  have qp := heap_alloc_new w4 (.cells #[.int .i64 2, .int .i64 p, .string (str [])] 23)
  replace bel := bel.alloc bel.size (.cells #[.int .i64 2, .int .i64 p, .string (str [])] 23)
  obtain ⟨qac0, qac1, qac2⟩ := cells3 qa
  have qal := lt_of_block qa
  obtain ⟨qbc0, qbc1, qbc2⟩ := cells3 qb
  have qbl := lt_of_block qb
  obtain ⟨qpc0, qpc1, qpc2⟩ := cells3 qp
  have qpl := lt_of_block qp
  go_wp2_with fail
  refine (D _).mono ?_
  rintro e w5 ⟨rfl, g⟩
  clear qac0 qac1 qac2 qal
  replace qa := (g.block _ (lt_of_block qa)).trans qa
  clear qbc0 qbc1 qbc2 qbl
  replace qb := (g.block _ (lt_of_block qb)).trans qb
  clear qpc0 qpc1 qpc2 qpl
  replace qp := (g.block _ (lt_of_block qp)).trans qp
  replace bel := chain bel g
  clear g
  obtain ⟨qac0, qac1, qac2⟩ := cells3 qa
  have qal := lt_of_block qa
  obtain ⟨qbc0, qbc1, qbc2⟩ := cells3 qb
  have qbl := lt_of_block qb
  obtain ⟨qpc0, qpc1, qpc2⟩ := cells3 qp
  have qpl := lt_of_block qp
  clear qac0 qac1 qac2 qal
  replace qa := (heap_alloc_old w5 (.cells #[.int .i64 2, .int .i64 m, .string (str [])] 23) (lt_of_block qa)).trans qa
  clear qbc0 qbc1 qbc2 qbl
  replace qb := (heap_alloc_old w5 (.cells #[.int .i64 2, .int .i64 m, .string (str [])] 23) (lt_of_block qb)).trans qb
  clear qpc0 qpc1 qpc2 qpl
  replace qp := (heap_alloc_old w5 (.cells #[.int .i64 2, .int .i64 m, .string (str [])] 23) (lt_of_block qp)).trans qp
  have qq := heap_alloc_new w5 (.cells #[.int .i64 2, .int .i64 m, .string (str [])] 23)
  replace bel := bel.alloc bel.size (.cells #[.int .i64 2, .int .i64 m, .string (str [])] 23)
  obtain ⟨qac0, qac1, qac2⟩ := cells3 qa
  have qal := lt_of_block qa
  obtain ⟨qbc0, qbc1, qbc2⟩ := cells3 qb
  have qbl := lt_of_block qb
  obtain ⟨qpc0, qpc1, qpc2⟩ := cells3 qp
  have qpl := lt_of_block qp
  obtain ⟨qqc0, qqc1, qqc2⟩ := cells3 qq
  have qql := lt_of_block qq
  go_wp2_with fail
  refine (R _).mono ?_
  rintro e w6 ⟨rfl, g⟩
  clear qac0 qac1 qac2 qal
  replace qa := (g.block _ (lt_of_block qa)).trans qa
  clear qbc0 qbc1 qbc2 qbl
  replace qb := (g.block _ (lt_of_block qb)).trans qb
  clear qpc0 qpc1 qpc2 qpl
  replace qp := (g.block _ (lt_of_block qp)).trans qp
  clear qqc0 qqc1 qqc2 qql
  replace qq := (g.block _ (lt_of_block qq)).trans qq
  replace bel := chain bel g
  clear g
  obtain ⟨qac0, qac1, qac2⟩ := cells3 qa
  have qal := lt_of_block qa
  obtain ⟨qbc0, qbc1, qbc2⟩ := cells3 qb
  have qbl := lt_of_block qb
  obtain ⟨qpc0, qpc1, qpc2⟩ := cells3 qp
  have qpl := lt_of_block qp
  obtain ⟨qqc0, qqc1, qqc2⟩ := cells3 qq
  have qql := lt_of_block qq
  clear qac0 qac1 qac2 qal
  replace qa := (heap_alloc_old w6 (.cells #[.int .i64 2, .int .i64 0, .string (str [])] 23) (lt_of_block qa)).trans qa
  clear qbc0 qbc1 qbc2 qbl
  replace qb := (heap_alloc_old w6 (.cells #[.int .i64 2, .int .i64 0, .string (str [])] 23) (lt_of_block qb)).trans qb
  clear qpc0 qpc1 qpc2 qpl
  replace qp := (heap_alloc_old w6 (.cells #[.int .i64 2, .int .i64 0, .string (str [])] 23) (lt_of_block qp)).trans qp
  clear qqc0 qqc1 qqc2 qql
  replace qq := (heap_alloc_old w6 (.cells #[.int .i64 2, .int .i64 0, .string (str [])] 23) (lt_of_block qq)).trans qq
  have qr := heap_alloc_new w6 (.cells #[.int .i64 2, .int .i64 0, .string (str [])] 23)
  replace bel := bel.alloc bel.size (.cells #[.int .i64 2, .int .i64 0, .string (str [])] 23)
  obtain ⟨qac0, qac1, qac2⟩ := cells3 qa
  have qal := lt_of_block qa
  obtain ⟨qbc0, qbc1, qbc2⟩ := cells3 qb
  have qbl := lt_of_block qb
  obtain ⟨qpc0, qpc1, qpc2⟩ := cells3 qp
  have qpl := lt_of_block qp
  obtain ⟨qqc0, qqc1, qqc2⟩ := cells3 qq
  have qql := lt_of_block qq
  obtain ⟨qrc0, qrc1, qrc2⟩ := cells3 qr
  have qrl := lt_of_block qr
  go_wp2_with fail
  clear qac0 qac1 qac2 qal
  clear qbc0 qbc1 qbc2 qbl
  clear qpc0 qpc1 qpc2 qpl
  clear qqc0 qqc1 qqc2 qql
  clear qrc0 qrc1 qrc2 qrl
  clear A P D R qb qp
  have bel := below_drewN (k := 1) bel
  refine g_start (by kernel_rfl) ?_
  refine g_take (i := 0) (d := (some 65)) (v := ?_) rfl rfl (by kernel_rfl) (fun _ _ _ h => h) (by rfl) (fun w' hb' => ?_) ?_
  rotate_left
  · have zz := (hb'.block _ (lt_of_block qq)).trans qq; obtain ⟨c0, c1, c2⟩ := cells3 zz; (try go_simp); (try with_reducible rfl)
  try simp only [Act.put, List.setIfInBounds_toArray, List.set_cons_zero, List.set_cons_succ]
  refine g_take (i := 1) (d := (some 66)) (v := ?_) rfl rfl (by kernel_rfl) (fun _ _ _ h => h) (by rfl) (fun w' hb' => ?_) ?_
  rotate_left
  · have zz := (hb'.block _ (lt_of_block qa)).trans qa; obtain ⟨c0, c1, c2⟩ := cells3 zz; (try go_simp); (try with_reducible rfl)
  try simp only [Act.put, List.setIfInBounds_toArray, List.set_cons_zero, List.set_cons_succ]
  refine g_take (i := 2) (d := (some 67)) (v := ?_) rfl rfl (by kernel_rfl) (fun _ _ _ h => h) (by rfl) (fun w' hb' => ?_) ?_
  rotate_left
  · (refine val_ne_op _ _ (.tmp 65) (.tmp 66) 23 2 m [] ?_ ?_ ?_ w' <;> rfl); (try go_simp); (try with_reducible rfl)
  try simp only [Act.put, List.setIfInBounds_toArray, List.set_cons_zero, List.set_cons_succ]
  refine g_take (i := 3) (d := (some 68)) (v := ?_) rfl rfl (by kernel_rfl) (fun _ _ _ h => h) (by rfl) (fun w' hb' => ?_) ?_
  rotate_left
  · (try go_simp); (try with_reducible rfl)
  try simp only [Act.put, List.setIfInBounds_toArray, List.set_cons_zero, List.set_cons_succ]
  refine g_take (i := 4) (d := (some 69)) (v := ?_) rfl rfl (by kernel_rfl) (fun _ _ _ h => h) (by rfl) (fun w' hb' => ?_) ?_
  rotate_left
  · (try go_simp); (try with_reducible rfl)
  try simp only [Act.put, List.setIfInBounds_toArray, List.set_cons_zero, List.set_cons_succ]
  refine g_take (i := 5) (d := (some 70)) (v := ?_) rfl rfl (by kernel_rfl) (fun _ _ _ h => h) (by rfl) (fun w' hb' => ?_) ?_
  rotate_left
  · (try go_simp); (try with_reducible rfl)
  try simp only [Act.put, List.setIfInBounds_toArray, List.set_cons_zero, List.set_cons_succ]
  refine g_take (i := 6) (d := (some 71)) (v := ?_) rfl rfl (by kernel_rfl) (fun _ _ _ h => h) (by rfl) (fun w' hb' => ?_) ?_
  rotate_left
  · (try go_simp); (try with_reducible rfl)
  try simp only [Act.put, List.setIfInBounds_toArray, List.set_cons_zero, List.set_cons_succ]
  refine g_take (i := 7) (d := (some 72)) (v := ?_) rfl rfl (by kernel_rfl) (fun _ _ _ h => h) (by rfl) (fun w' hb' => ?_) ?_
  rotate_left
  · (try go_simp); (try with_reducible rfl)
  try simp only [Act.put, List.setIfInBounds_toArray, List.set_cons_zero, List.set_cons_succ]
  refine g_take (i := 8) (d := (some 73)) (v := ?_) rfl rfl (by kernel_rfl) (fun _ _ _ h => h) (by rfl) (fun w' hb' => ?_) ?_
  rotate_left
  · have zz := (hb'.block _ (lt_of_block qr)).trans qr; obtain ⟨c0, c1, c2⟩ := cells3 zz; (try go_simp); (try with_reducible rfl)
  try simp only [Act.put, List.setIfInBounds_toArray, List.set_cons_zero, List.set_cons_succ]
  refine g_run (i := 9) rfl (by kernel_rfl) (by rfl) (fun K hK => ?_)
  go_simp
  refine (I 0 _).mono ?_
  rintro e x1 ⟨rfl, gg⟩
  have qa := (gg.block _ (lt_of_block qa)).trans qa
  have qq := (gg.block _ (lt_of_block qq)).trans qq
  have qr := (gg.block _ (lt_of_block qr)).trans qr
  have bel := chain bel gg
  refine hK _ _ ⟨gg, ?_⟩
  clear hK K gg
  try simp only [Act.put, List.setIfInBounds_toArray, List.set_cons_zero, List.set_cons_succ]
  refine g_take (i := 10) (d := (some 75)) (v := ?_) rfl rfl (by kernel_rfl) (fun _ _ _ h => h) (by rfl) (fun w' hb' => ?_) ?_
  rotate_left
  · (refine val_ne_op _ _ (.tmp 73) (.tmp 74) 23 2 0 [] ?_ ?_ ?_ w' <;> rfl); (try go_simp); (try with_reducible rfl)
  try simp only [Act.put, List.setIfInBounds_toArray, List.set_cons_zero, List.set_cons_succ]
  refine g_take (i := 11) (d := (some 76)) (v := ?_) rfl rfl (by kernel_rfl) (fun _ _ _ h => h) (by rfl) (fun w' hb' => ?_) ?_
  rotate_left
  · (try go_simp); (try with_reducible rfl)
  try simp only [Act.put, List.setIfInBounds_toArray, List.set_cons_zero, List.set_cons_succ]
  refine g_take (i := 12) (d := (some 77)) (v := ?_) rfl rfl (by kernel_rfl) (fun _ _ _ h => h) (by rfl) (fun w' hb' => ?_) ?_
  rotate_left
  · (try go_simp); (try with_reducible rfl)
  try simp only [Act.put, List.setIfInBounds_toArray, List.set_cons_zero, List.set_cons_succ]
  refine g_take (i := 13) (d := (some 78)) (v := ?_) rfl rfl (by kernel_rfl) (fun _ _ _ h => h) (by rfl) (fun w' hb' => ?_) ?_
  rotate_left
  · (try go_simp); (try with_reducible rfl)
  try simp only [Act.put, List.setIfInBounds_toArray, List.set_cons_zero, List.set_cons_succ]
  refine g_take (i := 14) (d := (some 79)) (v := ?_) rfl rfl (by kernel_rfl) (fun _ _ _ h => h) (by rfl) (fun w' hb' => ?_) ?_
  rotate_left
  · (try go_simp); (try with_reducible rfl)
  try simp only [Act.put, List.setIfInBounds_toArray, List.set_cons_zero, List.set_cons_succ]
  refine g_take (i := 15) (d := (some 80)) (v := ?_) rfl rfl (by kernel_rfl) (fun _ _ _ h => h) (by rfl) (fun w' hb' => ?_) ?_
  rotate_left
  · (try go_simp); (try with_reducible rfl)
  try simp only [Act.put, List.setIfInBounds_toArray, List.set_cons_zero, List.set_cons_succ]
  refine g_done (by kernel_rfl) ?_
  go_wp2_with fail
  refine (AW _).mono ?_
  rintro e wz ⟨rfl, g⟩
  replace bel := chain bel g
  go_wp2_with fail
  go_ret
  exact ⟨rfl, bel⟩
set_option maxRecDepth 100000 in
set_option maxHeartbeats 4000000 in
theorem undo_0_zero (m n s p : Int) (w : World) (hn : (n != 0) = false)
    (A : ∀ w, Calls Try.prog 22 #[.agg #[.int .i64 2, .int .i64 m, .string (str [])], .agg #[.int .i64 2, .int .i64 n, .string (str [])]] w fun e w' => e = .returned (.tuple #[.agg #[.int .i64 0, .int .i64 0, .string (str [])], .int .i64 8]) ∧ Below w.heap.size w w')
    (P : ∀ w, Calls Try.prog 26 #[.agg #[.int .i64 2, .int .i64 m, .string (str [])], .agg #[.int .i64 2, .int .i64 n, .string (str [])]] w fun e w' => e = .returned (.tuple #[.agg #[.int .i64 2, .int .i64 p, .string (str [])], .int .i64 0]) ∧ Below w.heap.size w w') :
    Calls Try.prog 9 #[.int .i64 m, .int .i64 n] w fun e w' => e = .returned (.bool true) ∧ Below w.heap.size w w' := by
  have I := int_any
  have AW := awake_any
  have bel := Below.refl w.heap.size w
  go_enter Try.func9, Try.ntmps9
  go_wp2_with fail
  refine (I m _).mono ?_
  rintro e w1 ⟨rfl, g⟩
  replace bel := chain bel g
  clear g
  go_wp2_with fail
  refine (I n _).mono ?_
  rintro e w2 ⟨rfl, g⟩
  replace bel := chain bel g
  clear g
  obtain ⟨qa, qb, -, -⟩ := two_allocs w2 (.cells #[.int .i64 2, .int .i64 m, .string (str [])] 23) (.cells #[.int .i64 2, .int .i64 n, .string (str [])] 23)
  replace bel := (bel.alloc bel.size (.cells #[.int .i64 2, .int .i64 m, .string (str [])] 23)).alloc (by simp; have := bel.size; omega) (.cells #[.int .i64 2, .int .i64 n, .string (str [])] 23)
  obtain ⟨qac0, qac1, qac2⟩ := cells3 qa
  have qal := lt_of_block qa
  obtain ⟨qbc0, qbc1, qbc2⟩ := cells3 qb
  have qbl := lt_of_block qb
  go_wp2_with fail
  refine (A _).mono ?_
  rintro e w3 ⟨rfl, g⟩
  clear qac0 qac1 qac2 qal
  replace qa := (g.block _ (lt_of_block qa)).trans qa
  clear qbc0 qbc1 qbc2 qbl
  replace qb := (g.block _ (lt_of_block qb)).trans qb
  replace bel := chain bel g
  clear g
  obtain ⟨qac0, qac1, qac2⟩ := cells3 qa
  have qal := lt_of_block qa
  obtain ⟨qbc0, qbc1, qbc2⟩ := cells3 qb
  have qbl := lt_of_block qb
  clear qac0 qac1 qac2 qal
  replace qa := (heap_alloc_old w3 (.cells #[.int .i64 0, .int .i64 0, .string (str [])] 23) (lt_of_block qa)).trans qa
  clear qbc0 qbc1 qbc2 qbl
  replace qb := (heap_alloc_old w3 (.cells #[.int .i64 0, .int .i64 0, .string (str [])] 23) (lt_of_block qb)).trans qb
  have qs := heap_alloc_new w3 (.cells #[.int .i64 0, .int .i64 0, .string (str [])] 23)
  replace bel := bel.alloc bel.size (.cells #[.int .i64 0, .int .i64 0, .string (str [])] 23)
  obtain ⟨qac0, qac1, qac2⟩ := cells3 qa
  have qal := lt_of_block qa
  obtain ⟨qbc0, qbc1, qbc2⟩ := cells3 qb
  have qbl := lt_of_block qb
  obtain ⟨qsc0, qsc1, qsc2⟩ := cells3 qs
  have qsl := lt_of_block qs
  go_wp2_with fail
  refine (P _).mono ?_
  rintro e w4 ⟨rfl, g⟩
  clear qac0 qac1 qac2 qal
  replace qa := (g.block _ (lt_of_block qa)).trans qa
  clear qbc0 qbc1 qbc2 qbl
  replace qb := (g.block _ (lt_of_block qb)).trans qb
  clear qsc0 qsc1 qsc2 qsl
  replace qs := (g.block _ (lt_of_block qs)).trans qs
  replace bel := chain bel g
  clear g
  obtain ⟨qac0, qac1, qac2⟩ := cells3 qa
  have qal := lt_of_block qa
  obtain ⟨qbc0, qbc1, qbc2⟩ := cells3 qb
  have qbl := lt_of_block qb
  obtain ⟨qsc0, qsc1, qsc2⟩ := cells3 qs
  have qsl := lt_of_block qs
  clear qs qsl qsc0 qsc1 qsc2
  clear qac0 qac1 qac2 qal
  replace qa := (heap_alloc_old w4 (.cells #[.int .i64 2, .int .i64 p, .string (str [])] 23) (lt_of_block qa)).trans qa
  clear qbc0 qbc1 qbc2 qbl
  replace qb := (heap_alloc_old w4 (.cells #[.int .i64 2, .int .i64 p, .string (str [])] 23) (lt_of_block qb)).trans qb
  have qp := heap_alloc_new w4 (.cells #[.int .i64 2, .int .i64 p, .string (str [])] 23)
  replace bel := bel.alloc bel.size (.cells #[.int .i64 2, .int .i64 p, .string (str [])] 23)
  obtain ⟨qac0, qac1, qac2⟩ := cells3 qa
  have qal := lt_of_block qa
  obtain ⟨qbc0, qbc1, qbc2⟩ := cells3 qb
  have qbl := lt_of_block qb
  obtain ⟨qpc0, qpc1, qpc2⟩ := cells3 qp
  have qpl := lt_of_block qp
  go_wp2_with fail
  refine (AW _).mono ?_
  rintro e wz ⟨rfl, g⟩
  replace bel := chain bel g
  go_wp2_with fail
  go_ret
  exact ⟨rfl, bel⟩
set_option maxRecDepth 100000 in
set_option maxHeartbeats 4000000 in
theorem undo_0_no (m n s p : Int) (w : World) 
    (A : ∀ w, Calls Try.prog 22 #[.agg #[.int .i64 2, .int .i64 m, .string (str [])], .agg #[.int .i64 2, .int .i64 n, .string (str [])]] w fun e w' => e = .returned (.tuple #[.agg #[.int .i64 0, .int .i64 0, .string (str [])], .int .i64 8]) ∧ Below w.heap.size w w')
    (P : ∀ w, Calls Try.prog 26 #[.agg #[.int .i64 2, .int .i64 m, .string (str [])], .agg #[.int .i64 2, .int .i64 n, .string (str [])]] w fun e w' => e = .returned (.tuple #[.agg #[.int .i64 0, .int .i64 0, .string (str [])], .int .i64 8]) ∧ Below w.heap.size w w') :
    Calls Try.prog 9 #[.int .i64 m, .int .i64 n] w fun e w' => e = .returned (.bool true) ∧ Below w.heap.size w w' := by
  have I := int_any
  have AW := awake_any
  have bel := Below.refl w.heap.size w
  go_enter Try.func9, Try.ntmps9
  go_wp2_with fail
  refine (I m _).mono ?_
  rintro e w1 ⟨rfl, g⟩
  replace bel := chain bel g
  clear g
  go_wp2_with fail
  refine (I n _).mono ?_
  rintro e w2 ⟨rfl, g⟩
  replace bel := chain bel g
  clear g
  obtain ⟨qa, qb, -, -⟩ := two_allocs w2 (.cells #[.int .i64 2, .int .i64 m, .string (str [])] 23) (.cells #[.int .i64 2, .int .i64 n, .string (str [])] 23)
  replace bel := (bel.alloc bel.size (.cells #[.int .i64 2, .int .i64 m, .string (str [])] 23)).alloc (by simp; have := bel.size; omega) (.cells #[.int .i64 2, .int .i64 n, .string (str [])] 23)
  obtain ⟨qac0, qac1, qac2⟩ := cells3 qa
  have qal := lt_of_block qa
  obtain ⟨qbc0, qbc1, qbc2⟩ := cells3 qb
  have qbl := lt_of_block qb
  go_wp2_with fail
  refine (A _).mono ?_
  rintro e w3 ⟨rfl, g⟩
  clear qac0 qac1 qac2 qal
  replace qa := (g.block _ (lt_of_block qa)).trans qa
  clear qbc0 qbc1 qbc2 qbl
  replace qb := (g.block _ (lt_of_block qb)).trans qb
  replace bel := chain bel g
  clear g
  obtain ⟨qac0, qac1, qac2⟩ := cells3 qa
  have qal := lt_of_block qa
  obtain ⟨qbc0, qbc1, qbc2⟩ := cells3 qb
  have qbl := lt_of_block qb
  clear qac0 qac1 qac2 qal
  replace qa := (heap_alloc_old w3 (.cells #[.int .i64 0, .int .i64 0, .string (str [])] 23) (lt_of_block qa)).trans qa
  clear qbc0 qbc1 qbc2 qbl
  replace qb := (heap_alloc_old w3 (.cells #[.int .i64 0, .int .i64 0, .string (str [])] 23) (lt_of_block qb)).trans qb
  have qs := heap_alloc_new w3 (.cells #[.int .i64 0, .int .i64 0, .string (str [])] 23)
  replace bel := bel.alloc bel.size (.cells #[.int .i64 0, .int .i64 0, .string (str [])] 23)
  obtain ⟨qac0, qac1, qac2⟩ := cells3 qa
  have qal := lt_of_block qa
  obtain ⟨qbc0, qbc1, qbc2⟩ := cells3 qb
  have qbl := lt_of_block qb
  obtain ⟨qsc0, qsc1, qsc2⟩ := cells3 qs
  have qsl := lt_of_block qs
  go_wp2_with fail
  refine (P _).mono ?_
  rintro e w4 ⟨rfl, g⟩
  clear qac0 qac1 qac2 qal
  replace qa := (g.block _ (lt_of_block qa)).trans qa
  clear qbc0 qbc1 qbc2 qbl
  replace qb := (g.block _ (lt_of_block qb)).trans qb
  clear qsc0 qsc1 qsc2 qsl
  replace qs := (g.block _ (lt_of_block qs)).trans qs
  replace bel := chain bel g
  clear g
  obtain ⟨qac0, qac1, qac2⟩ := cells3 qa
  have qal := lt_of_block qa
  obtain ⟨qbc0, qbc1, qbc2⟩ := cells3 qb
  have qbl := lt_of_block qb
  obtain ⟨qsc0, qsc1, qsc2⟩ := cells3 qs
  have qsl := lt_of_block qs
  clear qs qsl qsc0 qsc1 qsc2
  clear qac0 qac1 qac2 qal
  replace qa := (heap_alloc_old w4 (.cells #[.int .i64 0, .int .i64 0, .string (str [])] 23) (lt_of_block qa)).trans qa
  clear qbc0 qbc1 qbc2 qbl
  replace qb := (heap_alloc_old w4 (.cells #[.int .i64 0, .int .i64 0, .string (str [])] 23) (lt_of_block qb)).trans qb
  have qp := heap_alloc_new w4 (.cells #[.int .i64 0, .int .i64 0, .string (str [])] 23)
  replace bel := bel.alloc bel.size (.cells #[.int .i64 0, .int .i64 0, .string (str [])] 23)
  obtain ⟨qac0, qac1, qac2⟩ := cells3 qa
  have qal := lt_of_block qa
  obtain ⟨qbc0, qbc1, qbc2⟩ := cells3 qb
  have qbl := lt_of_block qb
  obtain ⟨qpc0, qpc1, qpc2⟩ := cells3 qp
  have qpl := lt_of_block qp
  go_wp2_with fail
  refine (AW _).mono ?_
  rintro e wz ⟨rfl, g⟩
  replace bel := chain bel g
  go_wp2_with fail
  go_ret
  exact ⟨rfl, bel⟩
theorem undo_any (m n : Int) (w : World) (wm : (Lit.int .i64 m).wf = true) (wn : (Lit.int .i64 n).wf = true) :
    Calls Try.prog 9 #[.int .i64 m, .int .i64 n] w fun e w' => e = .returned (.bool true) ∧ Below w.heap.size w w' := by
  have fm : fits m := by simp [Lit.wf, IntKind.min, IntKind.max, IntKind.signed, IntKind.bits] at wm; unfold fits; omega
  have fn : fits n := by simp [Lit.wf, IntKind.min, IntKind.max, IntKind.signed, IntKind.bits] at wn; unfold fits; omega
  have A := fun w => add_any 2 m [] 2 n [] (by decide) (by decide) fm fn w
  have P := fun w => mul_any 2 m [] 2 n [] (by decide) (by decide) fm fn w
  rw [exp_int] at A P
  have addP : (fits (m + n) ∧ ∀ w, Calls Try.prog 25 #[.agg #[.int .i64 2, .int .i64 (m + n), .string (str [])], .agg #[.int .i64 2, .int .i64 n, .string (str [])]] w fun e w' => e = .returned (.tuple #[.agg #[.int .i64 2, .int .i64 m, .string (str [])], .int .i64 0]) ∧ Below w.heap.size w w') ∨ ¬ fits (m + n) := by
    by_cases h : fits (m + n)
    · refine .inl ⟨h, fun w => ?_⟩
      have U := sub_any 2 (m + n) [] 2 n [] (by decide) (by decide) h fn w
      rw [exp_int, show m + n - n = m from by omega, overE_yes fm, wrap64_of fm, opV_ok] at U
      exact U
    · exact .inr h
  have mulP : (fits (m * n) ∧ (n != 0) = true ∧ (∀ w, Calls Try.prog 27 #[.agg #[.int .i64 2, .int .i64 (m * n), .string (str [])], .agg #[.int .i64 2, .int .i64 n, .string (str [])]] w fun e w' => e = .returned (.tuple #[.agg #[.int .i64 2, .int .i64 m, .string (str [])], .int .i64 0]) ∧ Below w.heap.size w w') ∧
      (∀ w, Calls Try.prog 28 #[.agg #[.int .i64 2, .int .i64 (m * n), .string (str [])], .agg #[.int .i64 2, .int .i64 n, .string (str [])]] w fun e w' => e = .returned (.tuple #[.agg #[.int .i64 2, .int .i64 0, .string (str [])], .int .i64 0]) ∧ Below w.heap.size w w')) ∨ (fits (m * n) ∧ (n != 0) = false) ∨ ¬ fits (m * n) := by
    by_cases h : fits (m * n)
    · by_cases h0 : n = 0
      · exact .inr (.inl ⟨h, by simpa using h0⟩)
      · obtain ⟨u1, u2, u3, u4⟩ := undo_mul m n fm h0
        refine .inl ⟨h, by simpa using h0, fun w => ?_, fun w => ?_⟩
        · have U := div_any 2 (m * n) [] 2 n [] (by decide) (by decide) w
          rw [exp_int, u1, u2, opV_ok] at U
          exact U
        · have U := mod_any 2 (m * n) [] 2 n [] (by decide) (by decide) w
          rw [exp_int, u3, u4, opV_ok] at U
          exact U
    · exact .inr (.inr h)
  rcases addP with ⟨ha, U⟩ | ha <;> rcases mulP with ⟨hp, hn, D, R⟩ | ⟨hp, hn⟩ | hp
  · rw [overE_yes ha, wrap64_of ha, opV_ok] at A
    rw [overE_yes hp, wrap64_of hp, opV_ok] at P
    exact undo_1_yes m n _ _ w hn A P U D R
  · rw [overE_yes ha, wrap64_of ha, opV_ok] at A
    rw [overE_yes hp, wrap64_of hp, opV_ok] at P
    exact undo_1_zero m n _ _ w hn A P U
  · rw [overE_yes ha, wrap64_of ha, opV_ok] at A
    rw [overE_no hp, opV_bad] at P
    exact undo_1_no m n _ 0 w A P U
  · rw [overE_no ha, opV_bad] at A
    rw [overE_yes hp, wrap64_of hp, opV_ok] at P
    exact undo_0_yes m n 0 _ w hn A P D R
  · rw [overE_no ha, opV_bad] at A
    rw [overE_yes hp, wrap64_of hp, opV_ok] at P
    exact undo_0_zero m n 0 _ w hn A P
  · rw [overE_no ha, opV_bad] at A
    rw [overE_no hp, opV_bad] at P
    exact undo_0_no m n 0 0 w A P
end Go.Proofs.Ythakimgpaemfeaa
