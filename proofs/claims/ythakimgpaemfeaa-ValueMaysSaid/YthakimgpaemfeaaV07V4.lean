/- Values: the law ValueMays. Written by wip/tools/gen7u.py. -/
import Derived.Test.YthakimgpaemfeaaV07R
import Derived.Test.YthakimgpaemfeaaV07O
import Derived.Test.YthakimgpaemfeaaV07P
namespace Go.Proofs.Ythakimgpaemfeaa
open Go Go.RowKit
set_option linter.unusedVariables false
set_option linter.unusedSimpArgs false
theorem refBool_k3 (b : Bool) (w : World) :
    Calls Try.prog 19 #[.bool b] w fun e w' => e = .returned (.agg #[.int .i64 1, .int .i64 (n01 b), .string (str [])]) ∧ Below w.heap.size w w' := refBool_any b w
set_option maxRecDepth 100000 in
set_option maxHeartbeats 8000000 in
theorem mays_zl (n : Int) (ka ia : Int) (sa : List UInt8) (kb ib : Int) (sb : List UInt8) (la lb : List UInt8) (w : World)
    (FA : ∀ w, Calls Try.prog 10 #[.agg #[.int .i64 ka, .int .i64 ia, .string (str sa)]] w fun e w' => e = .returned (.agg #[.int .i64 ka, .int .i64 ia, .string (str la)]) ∧ Below w.heap.size w w')
    (FB : ∀ w, Calls Try.prog 10 #[.agg #[.int .i64 kb, .int .i64 ib, .string (str sb)]] w fun e w' => e = .returned (.agg #[.int .i64 kb, .int .i64 ib, .string (str lb)]) ∧ Below w.heap.size w w')
    (RMA : ∀ w, Calls Try.prog 11 #[.agg #[.int .i64 ka, .int .i64 ia, .string (str la)]] w fun e w' => e = .returned (.bool true) ∧ Below w.heap.size w w')
    (VMA : ∀ w, Calls Try.prog 14 #[.agg #[.int .i64 ka, .int .i64 ia, .string (str la)]] w fun e w' => e = .returned (.bool true) ∧ Below w.heap.size w w')
    (RMB : ∀ w, Calls Try.prog 11 #[.agg #[.int .i64 kb, .int .i64 ib, .string (str lb)]] w fun e w' => e = .returned (.bool true) ∧ Below w.heap.size w w')
    (RO : ∀ w, Calls Try.prog 12 #[.agg #[.int .i64 ka, .int .i64 ia, .string (str la)], .agg #[.int .i64 kb, .int .i64 ib, .string (str lb)]] w fun e w' => e = .returned (.int .i64 (0)) ∧ Below w.heap.size w w')
    (LV : ∀ w, Calls Try.prog 15 #[.agg #[.int .i64 ka, .int .i64 ia, .string (str la)], .agg #[.int .i64 kb, .int .i64 ib, .string (str lb)]] w fun e w' => e = .returned (.bool false) ∧ Below w.heap.size w w')
    (TX : ∀ w, Calls Try.prog 13 #[.string (str la)] w fun e w' => e = .returned (.tuple #[.agg #[.int .i64 0, .int .i64 0, .string (str [])], .int .i64 5]) ∧ Below w.heap.size w w')
    (hz : 64 < (str la).size) (hz3 : (str la).size ≤ 9223372036854775807) :
    Calls Try.prog 3 #[.agg #[.int .i64 ka, .int .i64 ia, .string (str sa)], .agg #[.int .i64 kb, .int .i64 ib, .string (str sb)], .int .i64 n] w fun e w' => e = .returned (.bool true) ∧ Below w.heap.size w w' := by
  have AW := awake_any
  have VN : ∀ w, (binOp .neq 23 (.agg #[.int .i64 0, .int .i64 0, .string (str [])]) (.agg #[.int .i64 0, .int .i64 0, .string (ByteArray.mk #[])])).run Try.prog w = .ok (.bool false) w := fun w => by go_simp; exact str_tl []
  have hzi : ¬ ((str la).size : Int) ≤ 64 := by omega
  have hzj : (64 : Int) < ((str la).size : Int) := by omega
  clear hz
  obtain ⟨qa, qb, -, -⟩ := two_allocs w (.cells #[.int .i64 ka, .int .i64 ia, .string (str sa)] 23) (.cells #[.int .i64 kb, .int .i64 ib, .string (str sb)] 23)
  have bel : Below w.heap.size w ((w.alloc (.cells #[.int .i64 ka, .int .i64 ia, .string (str sa)] 23)).alloc (.cells #[.int .i64 kb, .int .i64 ib, .string (str sb)] 23)) := ((Below.refl _ w).alloc (Nat.le_refl _) _).alloc (by simp) _
  go_enter Try.func3, Try.ntmps3
  go_wp2_with fail
  obtain ⟨W0, hW0⟩ : ∃ W0, W0 = (w.alloc (.cells #[.int .i64 ka, .int .i64 ia, .string (str sa)] 23)).alloc (.cells #[.int .i64 kb, .int .i64 ib, .string (str sb)] 23) := ⟨_, rfl⟩
  rw [← hW0] at qa qb bel ⊢
  clear hW0
  have bel := below_drewN (k := 1) bel
  refine t_start 4 (by kernel_rfl) ?_
  refine t_take (i := 0) (d := (some 10)) (v := ?_) rfl rfl (by kernel_rfl) (fun _ _ _ h => h) (by rfl) (fun w' hb' => ?_) ?_
  rotate_left
  · have zz := (hb'.block _ (lt_of_block qa)).trans qa; obtain ⟨c0, c1, c2⟩ := cells3 zz; (try go_simp); (try with_reducible rfl)
  try simp only [Act.put, List.setIfInBounds_toArray, List.set_cons_zero, List.set_cons_succ]
  refine t_take (i := 2) (d := (some 12)) (v := ?_) rfl rfl (by kernel_rfl) (fun _ _ _ h => h) (by rfl) (fun w' hb' => ?_) ?_
  rotate_left
  · have zz := (hb'.block _ (lt_of_block qb)).trans qb; obtain ⟨c0, c1, c2⟩ := cells3 zz; (try go_simp); (try with_reducible rfl)
  try simp only [Act.put, List.setIfInBounds_toArray, List.set_cons_zero, List.set_cons_succ]
  refine t_run (i := 1) rfl (by kernel_rfl) (by kernel_rfl) (by rfl) (fun K hK => ?_)
  go_simp
  refine (FA _).mono ?_
  rintro e y1 ⟨rfl, gg⟩
  have qa := (gg.block _ (lt_of_block qa)).trans qa
  have qb := (gg.block _ (lt_of_block qb)).trans qb
  have bel := chain bel gg
  refine hK _ _ ⟨gg, ?_⟩
  clear hK K gg
  try simp only [Act.put, List.setIfInBounds_toArray, List.set_cons_zero, List.set_cons_succ]
  refine t_run (i := 3) rfl (by kernel_rfl) (by kernel_rfl) (by rfl) (fun K hK => ?_)
  go_simp
  refine (FB _).mono ?_
  rintro e y2 ⟨rfl, gg⟩
  have qa := (gg.block _ (lt_of_block qa)).trans qa
  have qb := (gg.block _ (lt_of_block qb)).trans qb
  have bel := chain bel gg
  refine hK _ _ ⟨gg, ?_⟩
  clear hK K gg
  try simp only [Act.put, List.setIfInBounds_toArray, List.set_cons_zero, List.set_cons_succ]
  refine t_into ?_
  refine t_tail (i := 4) rfl (by kernel_rfl) (by kernel_rfl) (by rfl) (fun K hK => ?_)
  obtain ⟨c0, c1, c2⟩ := cells3 qa
  have cf := frozen3 qa
  have hl := lt_of_block qa
  go_simp
  refine hK _ _ ?_
  clear hK K c0 c1 c2 cf hl
  have qa := put3 (.int .i64 ka) (.int .i64 ia) (.string (str la)) qa
  have qb := put3_old (B := w.heap.size) (u0 := .int .i64 ka) (u1 := .int .i64 ia) (u2 := .string (str la)) qb (by omega)
  have bel := put3_below (B := w.heap.size) (u0 := .int .i64 ka) (u1 := .int .i64 ia) (u2 := .string (str la)) bel (by omega)
  obtain ⟨y3, hy3⟩ : ∃ W, W = (((y2.setCell ⟨w.heap.size, 0, none⟩ (.int .i64 ka)).setCell ⟨w.heap.size, 1, none⟩ (.int .i64 ia)).setCell ⟨w.heap.size, 2, none⟩ (.string (str la))) := ⟨_, rfl⟩
  rw [← hy3] at qa qb bel
  change wpO _ _ _ _ _ _ _ (((y2.setCell ⟨w.heap.size, 0, none⟩ (.int .i64 ka)).setCell ⟨w.heap.size, 1, none⟩ (.int .i64 ia)).setCell ⟨w.heap.size, 2, none⟩ (.string (str la)))
  rw [← hy3]
  clear hy3
  try simp only [Act.put, List.setIfInBounds_toArray, List.set_cons_zero, List.set_cons_succ]
  refine t_tail (i := 5) rfl (by kernel_rfl) (by kernel_rfl) (by rfl) (fun K hK => ?_)
  obtain ⟨c0, c1, c2⟩ := cells3 qb
  have cf := frozen3 qb
  have hl := lt_of_block qb
  go_simp
  refine hK _ _ ?_
  clear hK K c0 c1 c2 cf hl
  have qa := put3_old (B := w.heap.size + 1) (u0 := .int .i64 kb) (u1 := .int .i64 ib) (u2 := .string (str lb)) qa (by omega)
  have qb := put3 (.int .i64 kb) (.int .i64 ib) (.string (str lb)) qb
  have bel := put3_below (B := w.heap.size + 1) (u0 := .int .i64 kb) (u1 := .int .i64 ib) (u2 := .string (str lb)) bel (by omega)
  obtain ⟨y4, hy4⟩ : ∃ W, W = (((y3.setCell ⟨w.heap.size + 1, 0, none⟩ (.int .i64 kb)).setCell ⟨w.heap.size + 1, 1, none⟩ (.int .i64 ib)).setCell ⟨w.heap.size + 1, 2, none⟩ (.string (str lb))) := ⟨_, rfl⟩
  rw [← hy4] at qa qb bel
  change wpO _ _ _ _ _ _ _ (((y3.setCell ⟨w.heap.size + 1, 0, none⟩ (.int .i64 kb)).setCell ⟨w.heap.size + 1, 1, none⟩ (.int .i64 ib)).setCell ⟨w.heap.size + 1, 2, none⟩ (.string (str lb)))
  rw [← hy4]
  clear hy4
  try simp only [Act.put, List.setIfInBounds_toArray, List.set_cons_zero, List.set_cons_succ]
  refine t_over (by kernel_rfl) ?_
  obtain ⟨qac0, qac1, qac2⟩ := cells3 qa
  have qal := lt_of_block qa
  obtain ⟨qbc0, qbc1, qbc2⟩ := cells3 qb
  have qbl := lt_of_block qb
  go_wp2_with fail
  refine (RMA _).mono ?_
  rintro e w1 ⟨rfl, g⟩
  clear qac0 qac1 qac2 qal
  replace qa := (g.block _ (lt_of_block qa)).trans qa
  clear qbc0 qbc1 qbc2 qbl
  replace qb := (g.block _ (lt_of_block qb)).trans qb
  replace bel := chain bel g
  clear g
  obtain ⟨qac0, qac1, qac2⟩ := cells3 qa
  have qal := lt_of_block qa
  obtain ⟨qbc0, qbc1, qbc2⟩ := cells3 qb
  have qbl := lt_of_block qb
  go_wp2_with fail
  refine (RMB _).mono ?_
  rintro e w2 ⟨rfl, g⟩
  clear qac0 qac1 qac2 qal
  replace qa := (g.block _ (lt_of_block qa)).trans qa
  clear qbc0 qbc1 qbc2 qbl
  replace qb := (g.block _ (lt_of_block qb)).trans qb
  replace bel := chain bel g
  clear g
  obtain ⟨qac0, qac1, qac2⟩ := cells3 qa
  have qal := lt_of_block qa
  obtain ⟨qbc0, qbc1, qbc2⟩ := cells3 qb
  have qbl := lt_of_block qb
  go_wp2_with fail
  refine (RO _).mono ?_
  rintro e w3 ⟨rfl, g⟩
  clear qac0 qac1 qac2 qal
  replace qa := (g.block _ (lt_of_block qa)).trans qa
  clear qbc0 qbc1 qbc2 qbl
  replace qb := (g.block _ (lt_of_block qb)).trans qb
  replace bel := chain bel g
  clear g
  obtain ⟨qac0, qac1, qac2⟩ := cells3 qa
  have qal := lt_of_block qa
  obtain ⟨qbc0, qbc1, qbc2⟩ := cells3 qb
  have qbl := lt_of_block qb
  go_wp2_with fail
  refine (TX _).mono ?_
  rintro e w4 ⟨rfl, g⟩
  clear qac0 qac1 qac2 qal
  replace qa := (g.block _ (lt_of_block qa)).trans qa
  clear qbc0 qbc1 qbc2 qbl
  replace qb := (g.block _ (lt_of_block qb)).trans qb
  replace bel := chain bel g
  clear g
  obtain ⟨qac0, qac1, qac2⟩ := cells3 qa
  have qal := lt_of_block qa
  obtain ⟨qbc0, qbc1, qbc2⟩ := cells3 qb
  have qbl := lt_of_block qb
  clear qac0 qac1 qac2 qal
  replace qa := (heap_alloc_old w4 (.cells #[.int .i64 0, .int .i64 0, .string (str [])] 23) (lt_of_block qa)).trans qa
  clear qbc0 qbc1 qbc2 qbl
  replace qb := (heap_alloc_old w4 (.cells #[.int .i64 0, .int .i64 0, .string (str [])] 23) (lt_of_block qb)).trans qb
  have qt := heap_alloc_new w4 (.cells #[.int .i64 0, .int .i64 0, .string (str [])] 23)
  replace bel := bel.alloc bel.size (.cells #[.int .i64 0, .int .i64 0, .string (str [])] 23)
  obtain ⟨qac0, qac1, qac2⟩ := cells3 qa
  have qal := lt_of_block qa
  obtain ⟨qbc0, qbc1, qbc2⟩ := cells3 qb
  have qbl := lt_of_block qb
  obtain ⟨qtc0, qtc1, qtc2⟩ := cells3 qt
  have qtl := lt_of_block qt
  go_wp2_with fail
  clear qac0 qac1 qac2 qal
  clear qbc0 qbc1 qbc2 qbl
  clear qtc0 qtc1 qtc2 qtl
  have bel := below_drewN (k := 1) bel
  refine g_start (by kernel_rfl) ?_
  refine g_take (i := 0) (d := (some 52)) (v := ?_) rfl rfl (by kernel_rfl) (fun _ _ _ h => h) (by rfl) (fun w' hb' => ?_) ?_
  rotate_left
  · have zz := (hb'.block _ (lt_of_block qa)).trans qa; obtain ⟨c0, c1, c2⟩ := cells3 zz; (try go_simp); (try with_reducible rfl)
  try simp only [Act.put, List.setIfInBounds_toArray, List.set_cons_zero, List.set_cons_succ]
  refine g_take (i := 2) (d := (some 54)) (v := ?_) rfl rfl (by kernel_rfl) (fun _ _ _ h => h) (by rfl) (fun w' hb' => ?_) ?_
  rotate_left
  · have zz := (hb'.block _ (lt_of_block qa)).trans qa; obtain ⟨c0, c1, c2⟩ := cells3 zz; (try go_simp); (try with_reducible rfl)
  try simp only [Act.put, List.setIfInBounds_toArray, List.set_cons_zero, List.set_cons_succ]
  refine g_run (i := 1) rfl (by kernel_rfl) (by rfl) (fun K hK => ?_)
  go_simp
  refine (VMA _).mono ?_
  rintro e x1 ⟨rfl, gg⟩
  have qa := (gg.block _ (lt_of_block qa)).trans qa
  have qb := (gg.block _ (lt_of_block qb)).trans qb
  have bel := chain bel gg
  refine hK _ _ ⟨gg, ?_⟩
  clear hK K gg
  try simp only [Act.put, List.setIfInBounds_toArray, List.set_cons_zero, List.set_cons_succ]
  refine g_run (i := 3) rfl (by kernel_rfl) (by rfl) (fun K hK => ?_)
  go_simp
  refine (RMA _).mono ?_
  rintro e x2 ⟨rfl, gg⟩
  have qa := (gg.block _ (lt_of_block qa)).trans qa
  have qb := (gg.block _ (lt_of_block qb)).trans qb
  have bel := chain bel gg
  refine hK _ _ ⟨gg, ?_⟩
  clear hK K gg
  try simp only [Act.put, List.setIfInBounds_toArray, List.set_cons_zero, List.set_cons_succ]
  refine g_take (i := 4) (d := (some 56)) (v := ?_) rfl rfl (by kernel_rfl) (fun _ _ _ h => h) (by rfl) (fun w' hb' => ?_) ?_
  rotate_left
  · (try go_simp); (try with_reducible rfl)
  try simp only [Act.put, List.setIfInBounds_toArray, List.set_cons_zero, List.set_cons_succ]
  refine g_take (i := 5) (d := (some 57)) (v := ?_) rfl rfl (by kernel_rfl) (fun _ _ _ h => h) (by rfl) (fun w' hb' => ?_) ?_
  rotate_left
  · (try go_simp); (try with_reducible rfl)
  try simp only [Act.put, List.setIfInBounds_toArray, List.set_cons_zero, List.set_cons_succ]
  refine g_take (i := 6) (d := (some 58)) (v := ?_) rfl rfl (by kernel_rfl) (fun _ _ _ h => h) (by rfl) (fun w' hb' => ?_) ?_
  rotate_left
  · have zz := (hb'.block _ (lt_of_block qa)).trans qa; obtain ⟨c0, c1, c2⟩ := cells3 zz; (try go_simp); (try with_reducible rfl)
  try simp only [Act.put, List.setIfInBounds_toArray, List.set_cons_zero, List.set_cons_succ]
  refine g_take (i := 7) (d := (some 59)) (v := ?_) rfl rfl (by kernel_rfl) (fun _ _ _ h => h) (by rfl) (fun w' hb' => ?_) ?_
  rotate_left
  · have zz := (hb'.block _ (lt_of_block qb)).trans qb; obtain ⟨c0, c1, c2⟩ := cells3 zz; (try go_simp); (try with_reducible rfl)
  try simp only [Act.put, List.setIfInBounds_toArray, List.set_cons_zero, List.set_cons_succ]
  refine g_take (i := 9) (d := (some 61)) (v := ?_) rfl rfl (by kernel_rfl) (fun _ _ _ h => h) (by rfl) (fun w' hb' => ?_) ?_
  rotate_left
  · (try go_simp); (try with_reducible rfl)
  try simp only [Act.put, List.setIfInBounds_toArray, List.set_cons_zero, List.set_cons_succ]
  refine g_run (i := 8) rfl (by kernel_rfl) (by rfl) (fun K hK => ?_)
  go_simp
  refine (LV _).mono ?_
  rintro e x3 ⟨rfl, gg⟩
  have qa := (gg.block _ (lt_of_block qa)).trans qa
  have qb := (gg.block _ (lt_of_block qb)).trans qb
  have bel := chain bel gg
  refine hK _ _ ⟨gg, ?_⟩
  clear hK K gg
  try simp only [Act.put, List.setIfInBounds_toArray, List.set_cons_zero, List.set_cons_succ]
  refine g_take (i := 10) (d := (some 62)) (v := ?_) rfl rfl (by kernel_rfl) (fun _ _ _ h => h) (by rfl) (fun w' hb' => ?_) ?_
  rotate_left
  · (try go_simp); (try with_reducible rfl)
  try simp only [Act.put, List.setIfInBounds_toArray, List.set_cons_zero, List.set_cons_succ]
  refine g_take (i := 11) (d := (some 63)) (v := ?_) rfl rfl (by kernel_rfl) (fun _ _ _ h => h) (by rfl) (fun w' hb' => ?_) ?_
  rotate_left
  · (try go_simp); (try with_reducible rfl)
  try simp only [Act.put, List.setIfInBounds_toArray, List.set_cons_zero, List.set_cons_succ]
  refine g_take (i := 12) (d := (some 64)) (v := ?_) rfl rfl (by kernel_rfl) (fun _ _ _ h => h) (by rfl) (fun w' hb' => ?_) ?_
  rotate_left
  · (try go_simp); (try with_reducible rfl)
  try simp only [Act.put, List.setIfInBounds_toArray, List.set_cons_zero, List.set_cons_succ]
  refine g_take (i := 13) (d := (some 65)) (v := ?_) rfl rfl (by kernel_rfl) (fun _ _ _ h => h) (by rfl) (fun w' hb' => ?_) ?_
  rotate_left
  · (try go_simp); (try with_reducible rfl)
  try simp only [Act.put, List.setIfInBounds_toArray, List.set_cons_zero, List.set_cons_succ]
  refine g_take (i := 15) (d := (some 67)) (v := ?_) rfl rfl (by kernel_rfl) (fun _ _ _ h => h) (by rfl) (fun w' hb' => ?_) ?_
  rotate_left
  · (try go_simp); (try with_reducible rfl)
  try simp only [Act.put, List.setIfInBounds_toArray, List.set_cons_zero, List.set_cons_succ]
  refine g_run (i := 14) rfl (by kernel_rfl) (by rfl) (fun K hK => ?_)
  go_simp
  refine (int_any n _).mono ?_
  rintro e x4 ⟨rfl, gg⟩
  have qa := (gg.block _ (lt_of_block qa)).trans qa
  have qb := (gg.block _ (lt_of_block qb)).trans qb
  have bel := chain bel gg
  refine hK _ _ ⟨gg, ?_⟩
  clear hK K gg
  try simp only [Act.put, List.setIfInBounds_toArray, List.set_cons_zero, List.set_cons_succ]
  refine g_run (i := 16) rfl (by kernel_rfl) (by rfl) (fun K hK => ?_)
  go_simp
  refine (refInt_any n _).mono ?_
  rintro e x5 ⟨rfl, gg⟩
  have qa := (gg.block _ (lt_of_block qa)).trans qa
  have qb := (gg.block _ (lt_of_block qb)).trans qb
  have bel := chain bel gg
  refine hK _ _ ⟨gg, ?_⟩
  clear hK K gg
  try simp only [Act.put, List.setIfInBounds_toArray, List.set_cons_zero, List.set_cons_succ]
  refine g_take (i := 17) (d := (some 69)) (v := ?_) rfl rfl (by kernel_rfl) (fun _ _ _ h => h) (by rfl) (fun w' hb' => ?_) ?_
  rotate_left
  · (refine val_eq_op _ _ (.tmp 66) (.tmp 68) 23 2 n [] ?_ ?_ ?_ w' <;> rfl); (try go_simp); (try with_reducible rfl)
  try simp only [Act.put, List.setIfInBounds_toArray, List.set_cons_zero, List.set_cons_succ]
  refine g_take (i := 18) (d := (some 70)) (v := ?_) rfl rfl (by kernel_rfl) (fun _ _ _ h => h) (by rfl) (fun w' hb' => ?_) ?_
  rotate_left
  · (try go_simp); (try with_reducible rfl)
  try simp only [Act.put, List.setIfInBounds_toArray, List.set_cons_zero, List.set_cons_succ]
  refine g_take (i := 19) (d := (some 71)) (v := ?_) rfl rfl (by kernel_rfl) (fun _ _ _ h => h) (by rfl) (fun w' hb' => ?_) ?_
  rotate_left
  · (try go_simp); (try with_reducible rfl)
  try simp only [Act.put, List.setIfInBounds_toArray, List.set_cons_zero, List.set_cons_succ]
  refine g_take (i := 20) (d := (some 72)) (v := ?_) rfl rfl (by kernel_rfl) (fun _ _ _ h => h) (by rfl) (fun w' hb' => ?_) ?_
  rotate_left
  · (try go_simp); (try with_reducible rfl)
  try simp only [Act.put, List.setIfInBounds_toArray, List.set_cons_zero, List.set_cons_succ]
  refine g_take (i := 21) (d := (some 73)) (v := ?_) rfl rfl (by kernel_rfl) (fun _ _ _ h => h) (by rfl) (fun w' hb' => ?_) ?_
  rotate_left
  · (try go_simp); (try with_reducible rfl)
  try simp only [Act.put, List.setIfInBounds_toArray, List.set_cons_zero, List.set_cons_succ]
  refine g_take (i := 23) (d := (some 75)) (v := ?_) rfl rfl (by kernel_rfl) (fun _ _ _ h => h) (by rfl) (fun w' hb' => ?_) ?_
  rotate_left
  · (try go_simp); (try with_reducible rfl)
  try simp only [Act.put, List.setIfInBounds_toArray, List.set_cons_zero, List.set_cons_succ]
  refine g_take (i := 24) (d := (some 76)) (v := ?_) rfl rfl (by kernel_rfl) (fun _ _ _ h => h) (by rfl) (fun w' hb' => ?_) ?_
  rotate_left
  · (try go_simp); (try with_reducible rfl)
  try simp only [Act.put, List.setIfInBounds_toArray, List.set_cons_zero, List.set_cons_succ]
  refine g_run (i := 22) rfl (by kernel_rfl) (by rfl) (fun K hK => ?_)
  go_simp
  refine (bool_n _ _).mono ?_
  rintro e x6 ⟨rfl, gg⟩
  have qa := (gg.block _ (lt_of_block qa)).trans qa
  have qb := (gg.block _ (lt_of_block qb)).trans qb
  have bel := chain bel gg
  refine hK _ _ ⟨gg, ?_⟩
  clear hK K gg
  try simp only [Act.put, List.setIfInBounds_toArray, List.set_cons_zero, List.set_cons_succ]
  refine g_run (i := 25) rfl (by kernel_rfl) (by rfl) (fun K hK => ?_)
  go_simp
  refine (refBool_k3 _ _).mono ?_
  rintro e x7 ⟨rfl, gg⟩
  have qa := (gg.block _ (lt_of_block qa)).trans qa
  have qb := (gg.block _ (lt_of_block qb)).trans qb
  have bel := chain bel gg
  refine hK _ _ ⟨gg, ?_⟩
  clear hK K gg
  try simp only [Act.put, List.setIfInBounds_toArray, List.set_cons_zero, List.set_cons_succ]
  refine g_take (i := 26) (d := (some 78)) (v := ?_) rfl rfl (by kernel_rfl) (fun _ _ _ h => h) (by rfl) (fun w' hb' => ?_) ?_
  rotate_left
  · (refine val_eq_op _ _ (.tmp 74) (.tmp 77) 23 1 (n01 (decide (0 < n))) [] ?_ ?_ ?_ w' <;> rfl); (try go_simp); (try with_reducible rfl)
  try simp only [Act.put, List.setIfInBounds_toArray, List.set_cons_zero, List.set_cons_succ]
  refine g_take (i := 27) (d := (some 79)) (v := ?_) rfl rfl (by kernel_rfl) (fun _ _ _ h => h) (by rfl) (fun w' hb' => ?_) ?_
  rotate_left
  · (try go_simp); (try with_reducible rfl)
  try simp only [Act.put, List.setIfInBounds_toArray, List.set_cons_zero, List.set_cons_succ]
  refine g_take (i := 28) (d := (some 80)) (v := ?_) rfl rfl (by kernel_rfl) (fun _ _ _ h => h) (by rfl) (fun w' hb' => ?_) ?_
  rotate_left
  · (try go_simp); (try with_reducible rfl)
  try simp only [Act.put, List.setIfInBounds_toArray, List.set_cons_zero, List.set_cons_succ]
  refine g_run2 (i := 29) (k := 30) rfl rfl (by kernel_rfl) (by rfl) (by rfl) (fun K hK => ?_) (fun K hK => ?_)
  · skip
    go_simp
    refine (nil_any _).mono ?_
    rintro e x8 ⟨rfl, gg⟩
    have qa := (gg.block _ (lt_of_block qa)).trans qa
    have qb := (gg.block _ (lt_of_block qb)).trans qb
    have bel := chain bel gg
    refine hK _ _ ⟨gg, ?_⟩
    clear hK K gg
    try simp only [Act.put, List.setIfInBounds_toArray, List.set_cons_zero, List.set_cons_succ]
    refine g_run (i := 30) rfl (by kernel_rfl) (by rfl) (fun K hK => ?_)
    go_simp
    refine hK _ _ ⟨Below.refl _ _, ?_⟩
    clear hK K
    try simp only [Act.put, List.setIfInBounds_toArray, List.set_cons_zero, List.set_cons_succ]
    refine g_take (i := 31) (d := (some 83)) (v := ?_) rfl rfl (by kernel_rfl) (fun _ _ _ h => h) (by rfl) (fun w' hb' => ?_) ?_
    rotate_left
    · (refine val_eq_op _ _ (.tmp 81) (.tmp 82) 23 0 0 [] ?_ ?_ ?_ w' <;> rfl); (try go_simp); (try with_reducible rfl)
    try simp only [Act.put, List.setIfInBounds_toArray, List.set_cons_zero, List.set_cons_succ]
    refine g_take (i := 32) (d := (some 84)) (v := ?_) rfl rfl (by kernel_rfl) (fun _ _ _ h => h) (by rfl) (fun w' hb' => ?_) ?_
    rotate_left
    · (try go_simp); (try with_reducible rfl)
    try simp only [Act.put, List.setIfInBounds_toArray, List.set_cons_zero, List.set_cons_succ]
    refine g_take (i := 33) (d := (some 85)) (v := ?_) rfl rfl (by kernel_rfl) (fun _ _ _ h => h) (by rfl) (fun w' hb' => ?_) ?_
    rotate_left
    · (try go_simp); (try with_reducible rfl)
    try simp only [Act.put, List.setIfInBounds_toArray, List.set_cons_zero, List.set_cons_succ]
    refine g_run (i := 34) rfl (by kernel_rfl) (by rfl) (fun K hK => ?_)
    go_simp
    refine (AW _).mono ?_
    rintro e x9 ⟨rfl, gg⟩
    have qa := (gg.block _ (lt_of_block qa)).trans qa
    have qb := (gg.block _ (lt_of_block qb)).trans qb
    have bel := chain bel gg
    refine hK _ _ ⟨gg, ?_⟩
    clear hK K gg
    try simp only [Act.put, List.setIfInBounds_toArray, List.set_cons_zero, List.set_cons_succ]
    refine g_take (i := 35) (d := (some 87)) (v := ?_) rfl rfl (by kernel_rfl) (fun _ _ _ h => h) (by rfl) (fun w' hb' => ?_) ?_
    rotate_left
    · (try go_simp); (try with_reducible rfl)
    try simp only [Act.put, List.setIfInBounds_toArray, List.set_cons_zero, List.set_cons_succ]
    refine g_take (i := 36) (d := (some 6)) (v := ?_) rfl rfl (by kernel_rfl) (fun _ _ _ h => h) (by rfl) (fun w' hb' => ?_) ?_
    rotate_left
    · (try go_simp); (try with_reducible rfl)
    try simp only [Act.put, List.setIfInBounds_toArray, List.set_cons_zero, List.set_cons_succ]
    refine g_done (by kernel_rfl) ?_
    go_wp2_with fail
    go_ret
    exact ⟨rfl, bel⟩
  · skip
    go_simp
    refine hK _ _ ⟨Below.refl _ _, ?_⟩
    clear hK K
    try simp only [Act.put, List.setIfInBounds_toArray, List.set_cons_zero, List.set_cons_succ]
    refine g_run (i := 29) rfl (by kernel_rfl) (by rfl) (fun K hK => ?_)
    go_simp
    refine (nil_any _).mono ?_
    rintro e x10 ⟨rfl, gg⟩
    have qa := (gg.block _ (lt_of_block qa)).trans qa
    have qb := (gg.block _ (lt_of_block qb)).trans qb
    have bel := chain bel gg
    refine hK _ _ ⟨gg, ?_⟩
    clear hK K gg
    try simp only [Act.put, List.setIfInBounds_toArray, List.set_cons_zero, List.set_cons_succ]
    refine g_take (i := 31) (d := (some 83)) (v := ?_) rfl rfl (by kernel_rfl) (fun _ _ _ h => h) (by rfl) (fun w' hb' => ?_) ?_
    rotate_left
    · (refine val_eq_op _ _ (.tmp 81) (.tmp 82) 23 0 0 [] ?_ ?_ ?_ w' <;> rfl); (try go_simp); (try with_reducible rfl)
    try simp only [Act.put, List.setIfInBounds_toArray, List.set_cons_zero, List.set_cons_succ]
    refine g_take (i := 32) (d := (some 84)) (v := ?_) rfl rfl (by kernel_rfl) (fun _ _ _ h => h) (by rfl) (fun w' hb' => ?_) ?_
    rotate_left
    · (try go_simp); (try with_reducible rfl)
    try simp only [Act.put, List.setIfInBounds_toArray, List.set_cons_zero, List.set_cons_succ]
    refine g_take (i := 33) (d := (some 85)) (v := ?_) rfl rfl (by kernel_rfl) (fun _ _ _ h => h) (by rfl) (fun w' hb' => ?_) ?_
    rotate_left
    · (try go_simp); (try with_reducible rfl)
    try simp only [Act.put, List.setIfInBounds_toArray, List.set_cons_zero, List.set_cons_succ]
    refine g_run (i := 34) rfl (by kernel_rfl) (by rfl) (fun K hK => ?_)
    go_simp
    refine (AW _).mono ?_
    rintro e x11 ⟨rfl, gg⟩
    have qa := (gg.block _ (lt_of_block qa)).trans qa
    have qb := (gg.block _ (lt_of_block qb)).trans qb
    have bel := chain bel gg
    refine hK _ _ ⟨gg, ?_⟩
    clear hK K gg
    try simp only [Act.put, List.setIfInBounds_toArray, List.set_cons_zero, List.set_cons_succ]
    refine g_take (i := 35) (d := (some 87)) (v := ?_) rfl rfl (by kernel_rfl) (fun _ _ _ h => h) (by rfl) (fun w' hb' => ?_) ?_
    rotate_left
    · (try go_simp); (try with_reducible rfl)
    try simp only [Act.put, List.setIfInBounds_toArray, List.set_cons_zero, List.set_cons_succ]
    refine g_take (i := 36) (d := (some 6)) (v := ?_) rfl rfl (by kernel_rfl) (fun _ _ _ h => h) (by rfl) (fun w' hb' => ?_) ?_
    rotate_left
    · (try go_simp); (try with_reducible rfl)
    try simp only [Act.put, List.setIfInBounds_toArray, List.set_cons_zero, List.set_cons_succ]
    refine g_done (by kernel_rfl) ?_
    go_wp2_with fail
    go_ret
    exact ⟨rfl, bel⟩
end Go.Proofs.Ythakimgpaemfeaa
