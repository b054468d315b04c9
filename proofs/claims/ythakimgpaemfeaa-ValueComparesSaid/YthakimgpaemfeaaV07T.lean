/- Values: the law ValueCompares. Written by wip/tools/gen7t.py. -/
import Derived.Test.YthakimgpaemfeaaV07S
import Derived.Test.YthakimgpaemfeaaV07O
import Derived.Test.YthakimgpaemfeaaV07P
namespace Go.Proofs.Ythakimgpaemfeaa
open Go Go.RowKit
set_option linter.unusedVariables false
set_option linter.unusedSimpArgs false
set_option maxRecDepth 100000 in
set_option maxHeartbeats 8000000 in
theorem compares_way (op : Int) (ka ia : Int) (sa : List UInt8) (kb ib : Int) (sb : List UInt8) (la lb : List UInt8) (k i x : Int) (w : World)
    (FA : ∀ w, Calls Try.prog 10 #[.agg #[.int .i64 ka, .int .i64 ia, .string (str sa)]] w fun e w' => e = .returned (.agg #[.int .i64 ka, .int .i64 ia, .string (str la)]) ∧ Below w.heap.size w w')
    (FB : ∀ w, Calls Try.prog 10 #[.agg #[.int .i64 kb, .int .i64 ib, .string (str sb)]] w fun e w' => e = .returned (.agg #[.int .i64 kb, .int .i64 ib, .string (str lb)]) ∧ Below w.heap.size w w')
    (CV : ∀ w, Calls Try.prog 30 #[.int .i64 op, .agg #[.int .i64 ka, .int .i64 ia, .string (str la)], .agg #[.int .i64 kb, .int .i64 ib, .string (str lb)]] w fun e w' => e = .returned (.tuple #[.agg #[.int .i64 k, .int .i64 i, .string (str [])], .int .i64 x]) ∧ Below w.heap.size w w')
    (CR : ∀ w, Calls Try.prog 31 #[.int .i64 op, .agg #[.int .i64 ka, .int .i64 ia, .string (str la)], .agg #[.int .i64 kb, .int .i64 ib, .string (str lb)]] w fun e w' => e = .returned (.tuple #[.agg #[.int .i64 k, .int .i64 i, .string (str [])], .int .i64 x]) ∧ Below w.heap.size w w') :
    Calls Try.prog 5 #[.int .i64 op, .agg #[.int .i64 ka, .int .i64 ia, .string (str sa)], .agg #[.int .i64 kb, .int .i64 ib, .string (str sb)]] w fun e w' => e = .returned (.bool true) ∧ Below w.heap.size w w' := by
  have AW := awake_any
  have IS := is_same k i [] x
  obtain ⟨qa, qb, -, -⟩ := two_allocs w (.cells #[.int .i64 ka, .int .i64 ia, .string (str sa)] 23) (.cells #[.int .i64 kb, .int .i64 ib, .string (str sb)] 23)
  have bel : Below w.heap.size w ((w.alloc (.cells #[.int .i64 ka, .int .i64 ia, .string (str sa)] 23)).alloc (.cells #[.int .i64 kb, .int .i64 ib, .string (str sb)] 23)) := ((Below.refl _ w).alloc (Nat.le_refl _) _).alloc (by simp) _
  go_enter Try.func5, Try.ntmps5
  go_wp2_with fail
  obtain ⟨W0, hW0⟩ : ∃ W0, W0 = (w.alloc (.cells #[.int .i64 ka, .int .i64 ia, .string (str sa)] 23)).alloc (.cells #[.int .i64 kb, .int .i64 ib, .string (str sb)] 23) := ⟨_, rfl⟩
  rw [← hW0] at qa qb bel ⊢
  clear hW0
  have bel := below_drewN (k := 1) bel
  refine t_start 4 (by kernel_rfl) ?_
  refine t_take (i := 0) (d := (some 11)) (v := ?_) rfl rfl (by kernel_rfl) (fun _ _ _ h => h) (by rfl) (fun w' hb' => ?_) ?_
  rotate_left
  · have zz := (hb'.block _ (lt_of_block qa)).trans qa; obtain ⟨c0, c1, c2⟩ := cells3 zz; (try go_simp); (try with_reducible rfl)
  try simp only [Act.put, List.setIfInBounds_toArray, List.set_cons_zero, List.set_cons_succ]
  refine t_take (i := 2) (d := (some 13)) (v := ?_) rfl rfl (by kernel_rfl) (fun _ _ _ h => h) (by rfl) (fun w' hb' => ?_) ?_
  rotate_left
  · have zz := (hb'.block _ (lt_of_block qb)).trans qb; obtain ⟨c0, c1, c2⟩ := cells3 zz; (try go_simp); (try with_reducible rfl)
  try simp only [Act.put, List.setIfInBounds_toArray, List.set_cons_zero, List.set_cons_succ]
  refine t_run (i := 1) rfl (by kernel_rfl) (by kernel_rfl) (by rfl) (fun K hK => ?_)
  go_simp
  refine (FA _).mono ?_
  rintro e y1 ⟨rfl, gg⟩
  have qa := (gg.block _ (lt_of_block qa)).trans qa
  have qb := (gg.block _ (lt_of_block qb)).trans qb
  have bel := chain bel gg
  refine hK _ _ ⟨gg, ?_⟩
  clear hK K gg
  try simp only [Act.put, List.setIfInBounds_toArray, List.set_cons_zero, List.set_cons_succ]
  refine t_run (i := 3) rfl (by kernel_rfl) (by kernel_rfl) (by rfl) (fun K hK => ?_)
  go_simp
  refine (FB _).mono ?_
  rintro e y2 ⟨rfl, gg⟩
  have qa := (gg.block _ (lt_of_block qa)).trans qa
  have qb := (gg.block _ (lt_of_block qb)).trans qb
  have bel := chain bel gg
  refine hK _ _ ⟨gg, ?_⟩
  clear hK K gg
  try simp only [Act.put, List.setIfInBounds_toArray, List.set_cons_zero, List.set_cons_succ]
  refine t_into ?_
  refine t_tail (i := 4) rfl (by kernel_rfl) (by kernel_rfl) (by rfl) (fun K hK => ?_)
  obtain ⟨c0, c1, c2⟩ := cells3 qa
  have cf := frozen3 qa
  have hl := lt_of_block qa
  go_simp
  refine hK _ _ ?_
  clear hK K c0 c1 c2 cf hl
  have qa := put3 (.int .i64 ka) (.int .i64 ia) (.string (str la)) qa
  have qb := put3_old (B := w.heap.size) (u0 := .int .i64 ka) (u1 := .int .i64 ia) (u2 := .string (str la)) qb (by omega)
  have bel := put3_below (B := w.heap.size) (u0 := .int .i64 ka) (u1 := .int .i64 ia) (u2 := .string (str la)) bel (by omega)
  obtain ⟨y3, hy3⟩ : ∃ W, W = (((y2.setCell ⟨w.heap.size, 0, none⟩ (.int .i64 ka)).setCell ⟨w.heap.size, 1, none⟩ (.int .i64 ia)).setCell ⟨w.heap.size, 2, none⟩ (.string (str la))) := ⟨_, rfl⟩
  rw [← hy3] at qa qb bel
  change wpO _ _ _ _ _ _ _ (((y2.setCell ⟨w.heap.size, 0, none⟩ (.int .i64 ka)).setCell ⟨w.heap.size, 1, none⟩ (.int .i64 ia)).setCell ⟨w.heap.size, 2, none⟩ (.string (str la)))
  rw [← hy3]
  clear hy3
  try simp only [Act.put, List.setIfInBounds_toArray, List.set_cons_zero, List.set_cons_succ]
  refine t_tail (i := 5) rfl (by kernel_rfl) (by kernel_rfl) (by rfl) (fun K hK => ?_)
  obtain ⟨c0, c1, c2⟩ := cells3 qb
  have cf := frozen3 qb
  have hl := lt_of_block qb
  go_simp
  refine hK _ _ ?_
  clear hK K c0 c1 c2 cf hl
  have qa := put3_old (B := w.heap.size + 1) (u0 := .int .i64 kb) (u1 := .int .i64 ib) (u2 := .string (str lb)) qa (by omega)
  have qb := put3 (.int .i64 kb) (.int .i64 ib) (.string (str lb)) qb
  have bel := put3_below (B := w.heap.size + 1) (u0 := .int .i64 kb) (u1 := .int .i64 ib) (u2 := .string (str lb)) bel (by omega)
  obtain ⟨y4, hy4⟩ : ∃ W, W = (((y3.setCell ⟨w.heap.size + 1, 0, none⟩ (.int .i64 kb)).setCell ⟨w.heap.size + 1, 1, none⟩ (.int .i64 ib)).setCell ⟨w.heap.size + 1, 2, none⟩ (.string (str lb))) := ⟨_, rfl⟩
  rw [← hy4] at qa qb bel
  change wpO _ _ _ _ _ _ _ (((y3.setCell ⟨w.heap.size + 1, 0, none⟩ (.int .i64 kb)).setCell ⟨w.heap.size + 1, 1, none⟩ (.int .i64 ib)).setCell ⟨w.heap.size + 1, 2, none⟩ (.string (str lb)))
  rw [← hy4]
  clear hy4
  try simp only [Act.put, List.setIfInBounds_toArray, List.set_cons_zero, List.set_cons_succ]
  refine t_over (by kernel_rfl) ?_
  obtain ⟨qac0, qac1, qac2⟩ := cells3 qa
  have qal := lt_of_block qa
  obtain ⟨qbc0, qbc1, qbc2⟩ := cells3 qb
  have qbl := lt_of_block qb
  go_wp2_with fail
  refine (CV _).mono ?_
  rintro e w1 ⟨rfl, g⟩
  clear qac0 qac1 qac2 qal
  replace qa := (g.block _ (lt_of_block qa)).trans qa
  clear qbc0 qbc1 qbc2 qbl
  replace qb := (g.block _ (lt_of_block qb)).trans qb
  replace bel := chain bel g
  clear g
  obtain ⟨qac0, qac1, qac2⟩ := cells3 qa
  have qal := lt_of_block qa
  obtain ⟨qbc0, qbc1, qbc2⟩ := cells3 qb
  have qbl := lt_of_block qb
  clear qac0 qac1 qac2 qal
  replace qa := (heap_alloc_old w1 (.cells #[.int .i64 k, .int .i64 i, .string (str [])] 23) (lt_of_block qa)).trans qa
  clear qbc0 qbc1 qbc2 qbl
  replace qb := (heap_alloc_old w1 (.cells #[.int .i64 k, .int .i64 i, .string (str [])] 23) (lt_of_block qb)).trans qb
  have qv := heap_alloc_new w1 (.cells #[.int .i64 k, .int .i64 i, .string (str [])] 23)
  replace bel := bel.alloc bel.size (.cells #[.int .i64 k, .int .i64 i, .string (str [])] 23)
  obtain ⟨qac0, qac1, qac2⟩ := cells3 qa
  have qal := lt_of_block qa
  obtain ⟨qbc0, qbc1, qbc2⟩ := cells3 qb
  have qbl := lt_of_block qb
  obtain ⟨qvc0, qvc1, qvc2⟩ := cells3 qv
  have qvl := lt_of_block qv
  go_wp2_with fail
  refine (CR _).mono ?_
  rintro e w2 ⟨rfl, g⟩
  clear qac0 qac1 qac2 qal
  replace qa := (g.block _ (lt_of_block qa)).trans qa
  clear qbc0 qbc1 qbc2 qbl
  replace qb := (g.block _ (lt_of_block qb)).trans qb
  clear qvc0 qvc1 qvc2 qvl
  replace qv := (g.block _ (lt_of_block qv)).trans qv
  replace bel := chain bel g
  clear g
  obtain ⟨qac0, qac1, qac2⟩ := cells3 qa
  have qal := lt_of_block qa
  obtain ⟨qbc0, qbc1, qbc2⟩ := cells3 qb
  have qbl := lt_of_block qb
  obtain ⟨qvc0, qvc1, qvc2⟩ := cells3 qv
  have qvl := lt_of_block qv
  clear qac0 qac1 qac2 qal
  replace qa := (heap_alloc_old w2 (.cells #[.int .i64 k, .int .i64 i, .string (str [])] 23) (lt_of_block qa)).trans qa
  clear qbc0 qbc1 qbc2 qbl
  replace qb := (heap_alloc_old w2 (.cells #[.int .i64 k, .int .i64 i, .string (str [])] 23) (lt_of_block qb)).trans qb
  clear qvc0 qvc1 qvc2 qvl
  replace qv := (heap_alloc_old w2 (.cells #[.int .i64 k, .int .i64 i, .string (str [])] 23) (lt_of_block qv)).trans qv
  have qw := heap_alloc_new w2 (.cells #[.int .i64 k, .int .i64 i, .string (str [])] 23)
  replace bel := bel.alloc bel.size (.cells #[.int .i64 k, .int .i64 i, .string (str [])] 23)
  obtain ⟨qac0, qac1, qac2⟩ := cells3 qa
  have qal := lt_of_block qa
  obtain ⟨qbc0, qbc1, qbc2⟩ := cells3 qb
  have qbl := lt_of_block qb
  obtain ⟨qvc0, qvc1, qvc2⟩ := cells3 qv
  have qvl := lt_of_block qv
  obtain ⟨qwc0, qwc1, qwc2⟩ := cells3 qw
  have qwl := lt_of_block qw
  go_wp2_with fail
  refine (IS _).mono ?_
  rintro e w3 ⟨rfl, g⟩
  clear qac0 qac1 qac2 qal
  replace qa := (g.block _ (lt_of_block qa)).trans qa
  clear qbc0 qbc1 qbc2 qbl
  replace qb := (g.block _ (lt_of_block qb)).trans qb
  clear qvc0 qvc1 qvc2 qvl
  replace qv := (g.block _ (lt_of_block qv)).trans qv
  clear qwc0 qwc1 qwc2 qwl
  replace qw := (g.block _ (lt_of_block qw)).trans qw
  replace bel := chain bel g
  clear g
  obtain ⟨qac0, qac1, qac2⟩ := cells3 qa
  have qal := lt_of_block qa
  obtain ⟨qbc0, qbc1, qbc2⟩ := cells3 qb
  have qbl := lt_of_block qb
  obtain ⟨qvc0, qvc1, qvc2⟩ := cells3 qv
  have qvl := lt_of_block qv
  obtain ⟨qwc0, qwc1, qwc2⟩ := cells3 qw
  have qwl := lt_of_block qw
  go_wp2_with fail
  refine (AW _).mono ?_
  rintro e w4 ⟨rfl, g⟩
  clear qac0 qac1 qac2 qal
  replace qa := (g.block _ (lt_of_block qa)).trans qa
  clear qbc0 qbc1 qbc2 qbl
  replace qb := (g.block _ (lt_of_block qb)).trans qb
  clear qvc0 qvc1 qvc2 qvl
  replace qv := (g.block _ (lt_of_block qv)).trans qv
  clear qwc0 qwc1 qwc2 qwl
  replace qw := (g.block _ (lt_of_block qw)).trans qw
  replace bel := chain bel g
  clear g
  obtain ⟨qac0, qac1, qac2⟩ := cells3 qa
  have qal := lt_of_block qa
  obtain ⟨qbc0, qbc1, qbc2⟩ := cells3 qb
  have qbl := lt_of_block qb
  obtain ⟨qvc0, qvc1, qvc2⟩ := cells3 qv
  have qvl := lt_of_block qv
  obtain ⟨qwc0, qwc1, qwc2⟩ := cells3 qw
  have qwl := lt_of_block qw
  go_wp2_with fail
  go_ret
  exact ⟨rfl, bel⟩
theorem compares_row (op ka ia : Int) (sa : List UInt8) (kb ib : Int) (sb : List UInt8) (w : World) (wo : (Lit.int .i64 op).wf = true) (wka : (Lit.int .i64 ka).wf = true) (wia : (Lit.int .i64 ia).wf = true) (ha : sa.length ≤ maxLen)
    (wkb : (Lit.int .i64 kb).wf = true) (wib : (Lit.int .i64 ib).wf = true) (hb : sb.length ≤ maxLen) :
    Calls Try.prog 5 #[.int .i64 op, .agg #[.int .i64 ka, .int .i64 ia, .string (str sa)], .agg #[.int .i64 kb, .int .i64 ib, .string (str sb)]] w fun e w' => e = .returned (.bool true) ∧ Below w.heap.size w w' := by
  have la : (sa.take 200).length ≤ maxLen := Nat.le_trans (List.length_take_le' _ _) ha
  have lb : (sb.take 200).length ≤ maxLen := Nat.le_trans (List.length_take_le' _ _) hb
  obtain ⟨k, i, x, e⟩ := cmpV_form op ⟨ka, ia, sa.take 200⟩ ⟨kb, ib, sb.take 200⟩
  have CV := fun w => compare_any op ka ia (sa.take 200) kb ib (sb.take 200) la lb w
  have CR := fun w => refCompare_any op ka ia (sa.take 200) kb ib (sb.take 200) la lb w
  rw [e] at CV CR
  exact compares_way op ka ia sa kb ib sb (sa.take 200) (sb.take 200) k i x w (fun w => few_any ka ia sa w ha) (fun w => few_any kb ib sb w hb) CV CR
end Go.Proofs.Ythakimgpaemfeaa
