/- Values: the law ValueReckons. Written by wip/tools/gen7z.py. -/
import Derived.Test.YthakimgpaemfeaaV07Y4
import Derived.Test.YthakimgpaemfeaaV07S
import Derived.Test.YthakimgpaemfeaaV07L
import Derived.Test.YthakimgpaemfeaaV07P
namespace Go.Proofs.Ythakimgpaemfeaa
open Go Go.RowKit
set_option linter.unusedVariables false
set_option linter.unusedSimpArgs false
set_option maxRecDepth 100000 in
set_option maxHeartbeats 8000000 in
theorem reckons_way (ka ia : Int) (sa : List UInt8) (kb ib : Int) (sb : List UInt8) (la lb : List UInt8) (k0 i0 e0 k1 i1 e1 k2 i2 e2 k3 i3 e3 k4 i4 e4 k5 i5 e5 : Int) (w : World)
    (FA : ∀ w, Calls Try.prog 10 #[.agg #[.int .i64 ka, .int .i64 ia, .string (str sa)]] w fun e w' => e = .returned (.agg #[.int .i64 ka, .int .i64 ia, .string (str la)]) ∧ Below w.heap.size w w')
    (FB : ∀ w, Calls Try.prog 10 #[.agg #[.int .i64 kb, .int .i64 ib, .string (str sb)]] w fun e w' => e = .returned (.agg #[.int .i64 kb, .int .i64 ib, .string (str lb)]) ∧ Below w.heap.size w w')
    (V0 : ∀ w, Calls Try.prog 22 #[.agg #[.int .i64 ka, .int .i64 ia, .string (str la)], .agg #[.int .i64 kb, .int .i64 ib, .string (str lb)]] w fun e w' => e = .returned (.tuple #[.agg #[.int .i64 k0, .int .i64 i0, .string (str [])], .int .i64 e0]) ∧ Below w.heap.size w w')
    (R0 : ∀ w, Calls Try.prog 23 #[.int .i64 0, .agg #[.int .i64 ka, .int .i64 ia, .string (str la)], .agg #[.int .i64 kb, .int .i64 ib, .string (str lb)]] w fun e w' => e = .returned (.tuple #[.agg #[.int .i64 k0, .int .i64 i0, .string (str [])], .int .i64 e0]) ∧ Below w.heap.size w w')
    (V1 : ∀ w, Calls Try.prog 25 #[.agg #[.int .i64 ka, .int .i64 ia, .string (str la)], .agg #[.int .i64 kb, .int .i64 ib, .string (str lb)]] w fun e w' => e = .returned (.tuple #[.agg #[.int .i64 k1, .int .i64 i1, .string (str [])], .int .i64 e1]) ∧ Below w.heap.size w w')
    (R1 : ∀ w, Calls Try.prog 23 #[.int .i64 1, .agg #[.int .i64 ka, .int .i64 ia, .string (str la)], .agg #[.int .i64 kb, .int .i64 ib, .string (str lb)]] w fun e w' => e = .returned (.tuple #[.agg #[.int .i64 k1, .int .i64 i1, .string (str [])], .int .i64 e1]) ∧ Below w.heap.size w w')
    (V2 : ∀ w, Calls Try.prog 26 #[.agg #[.int .i64 ka, .int .i64 ia, .string (str la)], .agg #[.int .i64 kb, .int .i64 ib, .string (str lb)]] w fun e w' => e = .returned (.tuple #[.agg #[.int .i64 k2, .int .i64 i2, .string (str [])], .int .i64 e2]) ∧ Below w.heap.size w w')
    (R2 : ∀ w, Calls Try.prog 23 #[.int .i64 2, .agg #[.int .i64 ka, .int .i64 ia, .string (str la)], .agg #[.int .i64 kb, .int .i64 ib, .string (str lb)]] w fun e w' => e = .returned (.tuple #[.agg #[.int .i64 k2, .int .i64 i2, .string (str [])], .int .i64 e2]) ∧ Below w.heap.size w w')
    (V3 : ∀ w, Calls Try.prog 27 #[.agg #[.int .i64 ka, .int .i64 ia, .string (str la)], .agg #[.int .i64 kb, .int .i64 ib, .string (str lb)]] w fun e w' => e = .returned (.tuple #[.agg #[.int .i64 k3, .int .i64 i3, .string (str [])], .int .i64 e3]) ∧ Below w.heap.size w w')
    (R3 : ∀ w, Calls Try.prog 23 #[.int .i64 3, .agg #[.int .i64 ka, .int .i64 ia, .string (str la)], .agg #[.int .i64 kb, .int .i64 ib, .string (str lb)]] w fun e w' => e = .returned (.tuple #[.agg #[.int .i64 k3, .int .i64 i3, .string (str [])], .int .i64 e3]) ∧ Below w.heap.size w w')
    (V4 : ∀ w, Calls Try.prog 28 #[.agg #[.int .i64 ka, .int .i64 ia, .string (str la)], .agg #[.int .i64 kb, .int .i64 ib, .string (str lb)]] w fun e w' => e = .returned (.tuple #[.agg #[.int .i64 k4, .int .i64 i4, .string (str [])], .int .i64 e4]) ∧ Below w.heap.size w w')
    (R4 : ∀ w, Calls Try.prog 23 #[.int .i64 4, .agg #[.int .i64 ka, .int .i64 ia, .string (str la)], .agg #[.int .i64 kb, .int .i64 ib, .string (str lb)]] w fun e w' => e = .returned (.tuple #[.agg #[.int .i64 k4, .int .i64 i4, .string (str [])], .int .i64 e4]) ∧ Below w.heap.size w w')
    (V5 : ∀ w, Calls Try.prog 29 #[.agg #[.int .i64 ka, .int .i64 ia, .string (str la)]] w fun e w' => e = .returned (.tuple #[.agg #[.int .i64 k5, .int .i64 i5, .string (str [])], .int .i64 e5]) ∧ Below w.heap.size w w')
    (R5 : ∀ w, Calls Try.prog 23 #[.int .i64 1, .agg #[.int .i64 2, .int .i64 0, .string (str [])], .agg #[.int .i64 ka, .int .i64 ia, .string (str la)]] w fun e w' => e = .returned (.tuple #[.agg #[.int .i64 k5, .int .i64 i5, .string (str [])], .int .i64 e5]) ∧ Below w.heap.size w w')
 :
    Calls Try.prog 4 #[.agg #[.int .i64 ka, .int .i64 ia, .string (str sa)], .agg #[.int .i64 kb, .int .i64 ib, .string (str sb)]] w fun e w' => e = .returned (.bool true) ∧ Below w.heap.size w w' := by
  have AW := awake_any
  have RI := refInt_any
  have IS0 := is_same k0 i0 [] e0
  have IS1 := is_same k1 i1 [] e1
  have IS2 := is_same k2 i2 [] e2
  have IS3 := is_same k3 i3 [] e3
  have IS4 := is_same k4 i4 [] e4
  have IS5 := is_same k5 i5 [] e5
  obtain ⟨qa, qb, -, -⟩ := two_allocs w (.cells #[.int .i64 ka, .int .i64 ia, .string (str sa)] 23) (.cells #[.int .i64 kb, .int .i64 ib, .string (str sb)] 23)
  have bel : Below w.heap.size w ((w.alloc (.cells #[.int .i64 ka, .int .i64 ia, .string (str sa)] 23)).alloc (.cells #[.int .i64 kb, .int .i64 ib, .string (str sb)] 23)) := ((Below.refl _ w).alloc (Nat.le_refl _) _).alloc (by simp) _
  go_enter Try.func4, Try.ntmps4
  go_wp2_with fail
  obtain ⟨W0, hW0⟩ : ∃ W0, W0 = (w.alloc (.cells #[.int .i64 ka, .int .i64 ia, .string (str sa)] 23)).alloc (.cells #[.int .i64 kb, .int .i64 ib, .string (str sb)] 23) := ⟨_, rfl⟩
  rw [← hW0] at qa qb bel ⊢
  clear hW0
  have bel := below_drewN (k := 1) bel
  refine t_start 4 (by kernel_rfl) ?_
  refine t_take (i := 0) (d := (some 10)) (v := ?_) rfl rfl (by kernel_rfl) (fun _ _ _ h => h) (by rfl) (fun w' hb' => ?_) ?_
  rotate_left
  · have zz := (hb'.block _ (lt_of_block qa)).trans qa; obtain ⟨c0, c1, c2⟩ := cells3 zz; (try go_simp); (try with_reducible rfl)
  try simp only [Act.put, List.setIfInBounds_toArray, List.set_cons_zero, List.set_cons_succ]
  refine t_take (i := 2) (d := (some 12)) (v := ?_) rfl rfl (by kernel_rfl) (fun _ _ _ h => h) (by rfl) (fun w' hb' => ?_) ?_
  rotate_left
  · have zz := (hb'.block _ (lt_of_block qb)).trans qb; obtain ⟨c0, c1, c2⟩ := cells3 zz; (try go_simp); (try with_reducible rfl)
  try simp only [Act.put, List.setIfInBounds_toArray, List.set_cons_zero, List.set_cons_succ]
  refine t_run (i := 1) rfl (by kernel_rfl) (by kernel_rfl) (by rfl) (fun K hK => ?_)
  go_simp
  refine (FA _).mono ?_
  rintro e y1 ⟨rfl, gg⟩
  have qa := (gg.block _ (lt_of_block qa)).trans qa
  have qb := (gg.block _ (lt_of_block qb)).trans qb
  have bel := chain bel gg
  refine hK _ _ ⟨gg, ?_⟩
  clear hK K gg
  try simp only [Act.put, List.setIfInBounds_toArray, List.set_cons_zero, List.set_cons_succ]
  refine t_run (i := 3) rfl (by kernel_rfl) (by kernel_rfl) (by rfl) (fun K hK => ?_)
  go_simp
  refine (FB _).mono ?_
  rintro e y2 ⟨rfl, gg⟩
  have qa := (gg.block _ (lt_of_block qa)).trans qa
  have qb := (gg.block _ (lt_of_block qb)).trans qb
  have bel := chain bel gg
  refine hK _ _ ⟨gg, ?_⟩
  clear hK K gg
  try simp only [Act.put, List.setIfInBounds_toArray, List.set_cons_zero, List.set_cons_succ]
  refine t_into ?_
  refine t_tail (i := 4) rfl (by kernel_rfl) (by kernel_rfl) (by rfl) (fun K hK => ?_)
  obtain ⟨c0, c1, c2⟩ := cells3 qa
  have cf := frozen3 qa
  have hl := lt_of_block qa
  go_simp
  refine hK _ _ ?_
  clear hK K c0 c1 c2 cf hl
  have qa := put3 (.int .i64 ka) (.int .i64 ia) (.string (str la)) qa
  have qb := put3_old (B := w.heap.size) (u0 := .int .i64 ka) (u1 := .int .i64 ia) (u2 := .string (str la)) qb (by omega)
  have bel := put3_below (B := w.heap.size) (u0 := .int .i64 ka) (u1 := .int .i64 ia) (u2 := .string (str la)) bel (by omega)
  obtain ⟨y3, hy3⟩ : ∃ W, W = (((y2.setCell ⟨w.heap.size, 0, none⟩ (.int .i64 ka)).setCell ⟨w.heap.size, 1, none⟩ (.int .i64 ia)).setCell ⟨w.heap.size, 2, none⟩ (.string (str la))) := ⟨_, rfl⟩
  rw [← hy3] at qa qb bel
  change wpO _ _ _ _ _ _ _ (((y2.setCell ⟨w.heap.size, 0, none⟩ (.int .i64 ka)).setCell ⟨w.heap.size, 1, none⟩ (.int .i64 ia)).setCell ⟨w.heap.size, 2, none⟩ (.string (str la)))
  rw [← hy3]
  clear hy3
  try simp only [Act.put, List.setIfInBounds_toArray, List.set_cons_zero, List.set_cons_succ]
  refine t_tail (i := 5) rfl (by kernel_rfl) (by kernel_rfl) (by rfl) (fun K hK => ?_)
  obtain ⟨c0, c1, c2⟩ := cells3 qb
  have cf := frozen3 qb
  have hl := lt_of_block qb
  go_simp
  refine hK _ _ ?_
  clear hK K c0 c1 c2 cf hl
  have qa := put3_old (B := w.heap.size + 1) (u0 := .int .i64 kb) (u1 := .int .i64 ib) (u2 := .string (str lb)) qa (by omega)
  have qb := put3 (.int .i64 kb) (.int .i64 ib) (.string (str lb)) qb
  have bel := put3_below (B := w.heap.size + 1) (u0 := .int .i64 kb) (u1 := .int .i64 ib) (u2 := .string (str lb)) bel (by omega)
  obtain ⟨y4, hy4⟩ : ∃ W, W = (((y3.setCell ⟨w.heap.size + 1, 0, none⟩ (.int .i64 kb)).setCell ⟨w.heap.size + 1, 1, none⟩ (.int .i64 ib)).setCell ⟨w.heap.size + 1, 2, none⟩ (.string (str lb))) := ⟨_, rfl⟩
  rw [← hy4] at qa qb bel
  change wpO _ _ _ _ _ _ _ (((y3.setCell ⟨w.heap.size + 1, 0, none⟩ (.int .i64 kb)).setCell ⟨w.heap.size + 1, 1, none⟩ (.int .i64 ib)).setCell ⟨w.heap.size + 1, 2, none⟩ (.string (str lb)))
  rw [← hy4]
  clear hy4
  try simp only [Act.put, List.setIfInBounds_toArray, List.set_cons_zero, List.set_cons_succ]
  refine t_over (by kernel_rfl) ?_
  obtain ⟨qac0, qac1, qac2⟩ := cells3 qa
  have qal := lt_of_block qa
  obtain ⟨qbc0, qbc1, qbc2⟩ := cells3 qb
  have qbl := lt_of_block qb
  go_wp2_with fail
  refine (V0 _).mono ?_
  rintro e w1 ⟨rfl, g⟩
  clear qac0 qac1 qac2 qal
  replace qa := (g.block _ (lt_of_block qa)).trans qa
  clear qbc0 qbc1 qbc2 qbl
  replace qb := (g.block _ (lt_of_block qb)).trans qb
  replace bel := chain bel g
  clear g
  obtain ⟨qac0, qac1, qac2⟩ := cells3 qa
  have qal := lt_of_block qa
  obtain ⟨qbc0, qbc1, qbc2⟩ := cells3 qb
  have qbl := lt_of_block qb
  have ne1 : w.heap.size + 1 < w1.heap.size := qbl
  clear qac0 qac1 qac2 qal
  replace qa := (heap_alloc_old w1 (.cells #[.int .i64 k0, .int .i64 i0, .string (str [])] 23) (lt_of_block qa)).trans qa
  clear qbc0 qbc1 qbc2 qbl
  replace qb := (heap_alloc_old w1 (.cells #[.int .i64 k0, .int .i64 i0, .string (str [])] 23) (lt_of_block qb)).trans qb
  have qv := heap_alloc_new w1 (.cells #[.int .i64 k0, .int .i64 i0, .string (str [])] 23)
  replace bel := bel.alloc bel.size (.cells #[.int .i64 k0, .int .i64 i0, .string (str [])] 23)
  obtain ⟨qac0, qac1, qac2⟩ := cells3 qa
  have qal := lt_of_block qa
  obtain ⟨qbc0, qbc1, qbc2⟩ := cells3 qb
  have qbl := lt_of_block qb
  obtain ⟨qvc0, qvc1, qvc2⟩ := cells3 qv
  have qvl := lt_of_block qv
  go_wp2_with fail
  refine (R0 _).mono ?_
  rintro e w2 ⟨rfl, g⟩
  clear qac0 qac1 qac2 qal
  replace qa := (g.block _ (lt_of_block qa)).trans qa
  clear qbc0 qbc1 qbc2 qbl
  replace qb := (g.block _ (lt_of_block qb)).trans qb
  clear qvc0 qvc1 qvc2 qvl
  replace qv := (g.block _ (lt_of_block qv)).trans qv
  replace bel := chain bel g
  clear g
  obtain ⟨qac0, qac1, qac2⟩ := cells3 qa
  have qal := lt_of_block qa
  obtain ⟨qbc0, qbc1, qbc2⟩ := cells3 qb
  have qbl := lt_of_block qb
  obtain ⟨qvc0, qvc1, qvc2⟩ := cells3 qv
  have qvl := lt_of_block qv
  have ne2 : w1.heap.size < w2.heap.size := qvl
  clear qac0 qac1 qac2 qal
  replace qa := (heap_alloc_old w2 (.cells #[.int .i64 k0, .int .i64 i0, .string (str [])] 23) (lt_of_block qa)).trans qa
  clear qbc0 qbc1 qbc2 qbl
  replace qb := (heap_alloc_old w2 (.cells #[.int .i64 k0, .int .i64 i0, .string (str [])] 23) (lt_of_block qb)).trans qb
  clear qvc0 qvc1 qvc2 qvl
  replace qv := (heap_alloc_old w2 (.cells #[.int .i64 k0, .int .i64 i0, .string (str [])] 23) (lt_of_block qv)).trans qv
  have qw := heap_alloc_new w2 (.cells #[.int .i64 k0, .int .i64 i0, .string (str [])] 23)
  replace bel := bel.alloc bel.size (.cells #[.int .i64 k0, .int .i64 i0, .string (str [])] 23)
  obtain ⟨qac0, qac1, qac2⟩ := cells3 qa
  have qal := lt_of_block qa
  obtain ⟨qbc0, qbc1, qbc2⟩ := cells3 qb
  have qbl := lt_of_block qb
  obtain ⟨qvc0, qvc1, qvc2⟩ := cells3 qv
  have qvl := lt_of_block qv
  obtain ⟨qwc0, qwc1, qwc2⟩ := cells3 qw
  have qwl := lt_of_block qw
  go_wp2_with fail
  refine (IS0 _).mono ?_
  rintro e w3 ⟨rfl, g⟩
  clear qac0 qac1 qac2 qal
  replace qa := (g.block _ (lt_of_block qa)).trans qa
  clear qbc0 qbc1 qbc2 qbl
  replace qb := (g.block _ (lt_of_block qb)).trans qb
  clear qvc0 qvc1 qvc2 qvl
  replace qv := (g.block _ (lt_of_block qv)).trans qv
  clear qwc0 qwc1 qwc2 qwl
  replace qw := (g.block _ (lt_of_block qw)).trans qw
  replace bel := chain bel g
  clear g
  obtain ⟨qac0, qac1, qac2⟩ := cells3 qa
  have qal := lt_of_block qa
  obtain ⟨qbc0, qbc1, qbc2⟩ := cells3 qb
  have qbl := lt_of_block qb
  obtain ⟨qvc0, qvc1, qvc2⟩ := cells3 qv
  have qvl := lt_of_block qv
  obtain ⟨qwc0, qwc1, qwc2⟩ := cells3 qw
  have qwl := lt_of_block qw
  go_wp2_with fail
  refine (V1 _).mono ?_
  rintro e w4 ⟨rfl, g⟩
  clear qac0 qac1 qac2 qal
  replace qa := (g.block _ (lt_of_block qa)).trans qa
  clear qbc0 qbc1 qbc2 qbl
  replace qb := (g.block _ (lt_of_block qb)).trans qb
  clear qvc0 qvc1 qvc2 qvl
  replace qv := (g.block _ (lt_of_block qv)).trans qv
  clear qwc0 qwc1 qwc2 qwl
  replace qw := (g.block _ (lt_of_block qw)).trans qw
  replace bel := chain bel g
  clear g
  obtain ⟨qac0, qac1, qac2⟩ := cells3 qa
  have qal := lt_of_block qa
  obtain ⟨qbc0, qbc1, qbc2⟩ := cells3 qb
  have qbl := lt_of_block qb
  obtain ⟨qvc0, qvc1, qvc2⟩ := cells3 qv
  have qvl := lt_of_block qv
  obtain ⟨qwc0, qwc1, qwc2⟩ := cells3 qw
  have qwl := lt_of_block qw
  have fz := frozen3 qv
  go_wp2_with fail
  clear fz
  clear qac0 qac1 qac2 qal
  clear qbc0 qbc1 qbc2 qbl
  clear qvc0 qvc1 qvc2 qvl
  clear qwc0 qwc1 qwc2 qwl
  replace qa := put3_old (B := w1.heap.size) (u0 := .int .i64 k1) (u1 := .int .i64 i1) (u2 := .string (str [])) qa (by omega)
  replace qb := put3_old (B := w1.heap.size) (u0 := .int .i64 k1) (u1 := .int .i64 i1) (u2 := .string (str [])) qb (by omega)
  replace qv := put3 (.int .i64 k1) (.int .i64 i1) (.string (str [])) qv
  replace qw := put3_old (B := w1.heap.size) (u0 := .int .i64 k1) (u1 := .int .i64 i1) (u2 := .string (str [])) qw (by omega)
  replace bel := put3_below (B := w1.heap.size) (u0 := .int .i64 k1) (u1 := .int .i64 i1) (u2 := .string (str [])) bel (by omega)
  obtain ⟨qac0, qac1, qac2⟩ := cells3 qa
  have qal := lt_of_block qa
  obtain ⟨qbc0, qbc1, qbc2⟩ := cells3 qb
  have qbl := lt_of_block qb
  obtain ⟨qvc0, qvc1, qvc2⟩ := cells3 qv
  have qvl := lt_of_block qv
  obtain ⟨qwc0, qwc1, qwc2⟩ := cells3 qw
  have qwl := lt_of_block qw
  refine (R1 _).mono ?_
  rintro e w5 ⟨rfl, g⟩
  clear qac0 qac1 qac2 qal
  replace qa := (g.block _ (lt_of_block qa)).trans qa
  clear qbc0 qbc1 qbc2 qbl
  replace qb := (g.block _ (lt_of_block qb)).trans qb
  clear qvc0 qvc1 qvc2 qvl
  replace qv := (g.block _ (lt_of_block qv)).trans qv
  clear qwc0 qwc1 qwc2 qwl
  replace qw := (g.block _ (lt_of_block qw)).trans qw
  replace bel := chain bel g
  clear g
  obtain ⟨qac0, qac1, qac2⟩ := cells3 qa
  have qal := lt_of_block qa
  obtain ⟨qbc0, qbc1, qbc2⟩ := cells3 qb
  have qbl := lt_of_block qb
  obtain ⟨qvc0, qvc1, qvc2⟩ := cells3 qv
  have qvl := lt_of_block qv
  obtain ⟨qwc0, qwc1, qwc2⟩ := cells3 qw
  have qwl := lt_of_block qw
  have fz := frozen3 qw
  go_wp2_with fail
  clear fz
  clear qac0 qac1 qac2 qal
  clear qbc0 qbc1 qbc2 qbl
  clear qvc0 qvc1 qvc2 qvl
  clear qwc0 qwc1 qwc2 qwl
  replace qa := put3_old (B := w2.heap.size) (u0 := .int .i64 k1) (u1 := .int .i64 i1) (u2 := .string (str [])) qa (by omega)
  replace qb := put3_old (B := w2.heap.size) (u0 := .int .i64 k1) (u1 := .int .i64 i1) (u2 := .string (str [])) qb (by omega)
  replace qv := put3_old (B := w2.heap.size) (u0 := .int .i64 k1) (u1 := .int .i64 i1) (u2 := .string (str [])) qv (by omega)
  replace qw := put3 (.int .i64 k1) (.int .i64 i1) (.string (str [])) qw
  replace bel := put3_below (B := w2.heap.size) (u0 := .int .i64 k1) (u1 := .int .i64 i1) (u2 := .string (str [])) bel (by omega)
  obtain ⟨qac0, qac1, qac2⟩ := cells3 qa
  have qal := lt_of_block qa
  obtain ⟨qbc0, qbc1, qbc2⟩ := cells3 qb
  have qbl := lt_of_block qb
  obtain ⟨qvc0, qvc1, qvc2⟩ := cells3 qv
  have qvl := lt_of_block qv
  obtain ⟨qwc0, qwc1, qwc2⟩ := cells3 qw
  have qwl := lt_of_block qw
  refine (IS1 _).mono ?_
  rintro e w6 ⟨rfl, g⟩
  clear qac0 qac1 qac2 qal
  replace qa := (g.block _ (lt_of_block qa)).trans qa
  clear qbc0 qbc1 qbc2 qbl
  replace qb := (g.block _ (lt_of_block qb)).trans qb
  clear qvc0 qvc1 qvc2 qvl
  replace qv := (g.block _ (lt_of_block qv)).trans qv
  clear qwc0 qwc1 qwc2 qwl
  replace qw := (g.block _ (lt_of_block qw)).trans qw
  replace bel := chain bel g
  clear g
  obtain ⟨qac0, qac1, qac2⟩ := cells3 qa
  have qal := lt_of_block qa
  obtain ⟨qbc0, qbc1, qbc2⟩ := cells3 qb
  have qbl := lt_of_block qb
  obtain ⟨qvc0, qvc1, qvc2⟩ := cells3 qv
  have qvl := lt_of_block qv
  obtain ⟨qwc0, qwc1, qwc2⟩ := cells3 qw
  have qwl := lt_of_block qw
  go_wp2_with fail
  refine (V2 _).mono ?_
  rintro e w7 ⟨rfl, g⟩
  clear qac0 qac1 qac2 qal
  replace qa := (g.block _ (lt_of_block qa)).trans qa
  clear qbc0 qbc1 qbc2 qbl
  replace qb := (g.block _ (lt_of_block qb)).trans qb
  clear qvc0 qvc1 qvc2 qvl
  replace qv := (g.block _ (lt_of_block qv)).trans qv
  clear qwc0 qwc1 qwc2 qwl
  replace qw := (g.block _ (lt_of_block qw)).trans qw
  replace bel := chain bel g
  clear g
  obtain ⟨qac0, qac1, qac2⟩ := cells3 qa
  have qal := lt_of_block qa
  obtain ⟨qbc0, qbc1, qbc2⟩ := cells3 qb
  have qbl := lt_of_block qb
  obtain ⟨qvc0, qvc1, qvc2⟩ := cells3 qv
  have qvl := lt_of_block qv
  obtain ⟨qwc0, qwc1, qwc2⟩ := cells3 qw
  have qwl := lt_of_block qw
  have fz := frozen3 qv
  go_wp2_with fail
  clear fz
  clear qac0 qac1 qac2 qal
  clear qbc0 qbc1 qbc2 qbl
  clear qvc0 qvc1 qvc2 qvl
  clear qwc0 qwc1 qwc2 qwl
  replace qa := put3_old (B := w1.heap.size) (u0 := .int .i64 k2) (u1 := .int .i64 i2) (u2 := .string (str [])) qa (by omega)
  replace qb := put3_old (B := w1.heap.size) (u0 := .int .i64 k2) (u1 := .int .i64 i2) (u2 := .string (str [])) qb (by omega)
  replace qv := put3 (.int .i64 k2) (.int .i64 i2) (.string (str [])) qv
  replace qw := put3_old (B := w1.heap.size) (u0 := .int .i64 k2) (u1 := .int .i64 i2) (u2 := .string (str [])) qw (by omega)
  replace bel := put3_below (B := w1.heap.size) (u0 := .int .i64 k2) (u1 := .int .i64 i2) (u2 := .string (str [])) bel (by omega)
  obtain ⟨qac0, qac1, qac2⟩ := cells3 qa
  have qal := lt_of_block qa
  obtain ⟨qbc0, qbc1, qbc2⟩ := cells3 qb
  have qbl := lt_of_block qb
  obtain ⟨qvc0, qvc1, qvc2⟩ := cells3 qv
  have qvl := lt_of_block qv
  obtain ⟨qwc0, qwc1, qwc2⟩ := cells3 qw
  have qwl := lt_of_block qw
  refine (R2 _).mono ?_
  rintro e w8 ⟨rfl, g⟩
  clear qac0 qac1 qac2 qal
  replace qa := (g.block _ (lt_of_block qa)).trans qa
  clear qbc0 qbc1 qbc2 qbl
  replace qb := (g.block _ (lt_of_block qb)).trans qb
  clear qvc0 qvc1 qvc2 qvl
  replace qv := (g.block _ (lt_of_block qv)).trans qv
  clear qwc0 qwc1 qwc2 qwl
  replace qw := (g.block _ (lt_of_block qw)).trans qw
  replace bel := chain bel g
  clear g
  obtain ⟨qac0, qac1, qac2⟩ := cells3 qa
  have qal := lt_of_block qa
  obtain ⟨qbc0, qbc1, qbc2⟩ := cells3 qb
  have qbl := lt_of_block qb
  obtain ⟨qvc0, qvc1, qvc2⟩ := cells3 qv
  have qvl := lt_of_block qv
  obtain ⟨qwc0, qwc1, qwc2⟩ := cells3 qw
  have qwl := lt_of_block qw
  have fz := frozen3 qw
  go_wp2_with fail
  clear fz
  clear qac0 qac1 qac2 qal
  clear qbc0 qbc1 qbc2 qbl
  clear qvc0 qvc1 qvc2 qvl
  clear qwc0 qwc1 qwc2 qwl
  replace qa := put3_old (B := w2.heap.size) (u0 := .int .i64 k2) (u1 := .int .i64 i2) (u2 := .string (str [])) qa (by omega)
  replace qb := put3_old (B := w2.heap.size) (u0 := .int .i64 k2) (u1 := .int .i64 i2) (u2 := .string (str [])) qb (by omega)
  replace qv := put3_old (B := w2.heap.size) (u0 := .int .i64 k2) (u1 := .int .i64 i2) (u2 := .string (str [])) qv (by omega)
  replace qw := put3 (.int .i64 k2) (.int .i64 i2) (.string (str [])) qw
  replace bel := put3_below (B := w2.heap.size) (u0 := .int .i64 k2) (u1 := .int .i64 i2) (u2 := .string (str [])) bel (by omega)
  obtain ⟨qac0, qac1, qac2⟩ := cells3 qa
  have qal := lt_of_block qa
  obtain ⟨qbc0, qbc1, qbc2⟩ := cells3 qb
  have qbl := lt_of_block qb
  obtain ⟨qvc0, qvc1, qvc2⟩ := cells3 qv
  have qvl := lt_of_block qv
  obtain ⟨qwc0, qwc1, qwc2⟩ := cells3 qw
  have qwl := lt_of_block qw
  refine (IS2 _).mono ?_
  rintro e w9 ⟨rfl, g⟩
  clear qac0 qac1 qac2 qal
  replace qa := (g.block _ (lt_of_block qa)).trans qa
  clear qbc0 qbc1 qbc2 qbl
  replace qb := (g.block _ (lt_of_block qb)).trans qb
  clear qvc0 qvc1 qvc2 qvl
  replace qv := (g.block _ (lt_of_block qv)).trans qv
  clear qwc0 qwc1 qwc2 qwl
  replace qw := (g.block _ (lt_of_block qw)).trans qw
  replace bel := chain bel g
  clear g
  obtain ⟨qac0, qac1, qac2⟩ := cells3 qa
  have qal := lt_of_block qa
  obtain ⟨qbc0, qbc1, qbc2⟩ := cells3 qb
  have qbl := lt_of_block qb
  obtain ⟨qvc0, qvc1, qvc2⟩ := cells3 qv
  have qvl := lt_of_block qv
  obtain ⟨qwc0, qwc1, qwc2⟩ := cells3 qw
  have qwl := lt_of_block qw
  go_wp2_with fail
  refine (V3 _).mono ?_
  rintro e w10 ⟨rfl, g⟩
  clear qac0 qac1 qac2 qal
  replace qa := (g.block _ (lt_of_block qa)).trans qa
  clear qbc0 qbc1 qbc2 qbl
  replace qb := (g.block _ (lt_of_block qb)).trans qb
  clear qvc0 qvc1 qvc2 qvl
  replace qv := (g.block _ (lt_of_block qv)).trans qv
  clear qwc0 qwc1 qwc2 qwl
  replace qw := (g.block _ (lt_of_block qw)).trans qw
  replace bel := chain bel g
  clear g
  obtain ⟨qac0, qac1, qac2⟩ := cells3 qa
  have qal := lt_of_block qa
  obtain ⟨qbc0, qbc1, qbc2⟩ := cells3 qb
  have qbl := lt_of_block qb
  obtain ⟨qvc0, qvc1, qvc2⟩ := cells3 qv
  have qvl := lt_of_block qv
  obtain ⟨qwc0, qwc1, qwc2⟩ := cells3 qw
  have qwl := lt_of_block qw
  have fz := frozen3 qv
  go_wp2_with fail
  clear fz
  clear qac0 qac1 qac2 qal
  clear qbc0 qbc1 qbc2 qbl
  clear qvc0 qvc1 qvc2 qvl
  clear qwc0 qwc1 qwc2 qwl
  replace qa := put3_old (B := w1.heap.size) (u0 := .int .i64 k3) (u1 := .int .i64 i3) (u2 := .string (str [])) qa (by omega)
  replace qb := put3_old (B := w1.heap.size) (u0 := .int .i64 k3) (u1 := .int .i64 i3) (u2 := .string (str [])) qb (by omega)
  replace qv := put3 (.int .i64 k3) (.int .i64 i3) (.string (str [])) qv
  replace qw := put3_old (B := w1.heap.size) (u0 := .int .i64 k3) (u1 := .int .i64 i3) (u2 := .string (str [])) qw (by omega)
  replace bel := put3_below (B := w1.heap.size) (u0 := .int .i64 k3) (u1 := .int .i64 i3) (u2 := .string (str [])) bel (by omega)
  obtain ⟨qac0, qac1, qac2⟩ := cells3 qa
  have qal := lt_of_block qa
  obtain ⟨qbc0, qbc1, qbc2⟩ := cells3 qb
  have qbl := lt_of_block qb
  obtain ⟨qvc0, qvc1, qvc2⟩ := cells3 qv
  have qvl := lt_of_block qv
  obtain ⟨qwc0, qwc1, qwc2⟩ := cells3 qw
  have qwl := lt_of_block qw
  refine (R3 _).mono ?_
  rintro e w11 ⟨rfl, g⟩
  clear qac0 qac1 qac2 qal
  replace qa := (g.block _ (lt_of_block qa)).trans qa
  clear qbc0 qbc1 qbc2 qbl
  replace qb := (g.block _ (lt_of_block qb)).trans qb
  clear qvc0 qvc1 qvc2 qvl
  replace qv := (g.block _ (lt_of_block qv)).trans qv
  clear qwc0 qwc1 qwc2 qwl
  replace qw := (g.block _ (lt_of_block qw)).trans qw
  replace bel := chain bel g
  clear g
  obtain ⟨qac0, qac1, qac2⟩ := cells3 qa
  have qal := lt_of_block qa
  obtain ⟨qbc0, qbc1, qbc2⟩ := cells3 qb
  have qbl := lt_of_block qb
  obtain ⟨qvc0, qvc1, qvc2⟩ := cells3 qv
  have qvl := lt_of_block qv
  obtain ⟨qwc0, qwc1, qwc2⟩ := cells3 qw
  have qwl := lt_of_block qw
  have fz := frozen3 qw
  go_wp2_with fail
  clear fz
  clear qac0 qac1 qac2 qal
  clear qbc0 qbc1 qbc2 qbl
  clear qvc0 qvc1 qvc2 qvl
  clear qwc0 qwc1 qwc2 qwl
  replace qa := put3_old (B := w2.heap.size) (u0 := .int .i64 k3) (u1 := .int .i64 i3) (u2 := .string (str [])) qa (by omega)
  replace qb := put3_old (B := w2.heap.size) (u0 := .int .i64 k3) (u1 := .int .i64 i3) (u2 := .string (str [])) qb (by omega)
  replace qv := put3_old (B := w2.heap.size) (u0 := .int .i64 k3) (u1 := .int .i64 i3) (u2 := .string (str [])) qv (by omega)
  replace qw := put3 (.int .i64 k3) (.int .i64 i3) (.string (str [])) qw
  replace bel := put3_below (B := w2.heap.size) (u0 := .int .i64 k3) (u1 := .int .i64 i3) (u2 := .string (str [])) bel (by omega)
  obtain ⟨qac0, qac1, qac2⟩ := cells3 qa
  have qal := lt_of_block qa
  obtain ⟨qbc0, qbc1, qbc2⟩ := cells3 qb
  have qbl := lt_of_block qb
  obtain ⟨qvc0, qvc1, qvc2⟩ := cells3 qv
  have qvl := lt_of_block qv
  obtain ⟨qwc0, qwc1, qwc2⟩ := cells3 qw
  have qwl := lt_of_block qw
  refine (IS3 _).mono ?_
  rintro e w12 ⟨rfl, g⟩
  clear qac0 qac1 qac2 qal
  replace qa := (g.block _ (lt_of_block qa)).trans qa
  clear qbc0 qbc1 qbc2 qbl
  replace qb := (g.block _ (lt_of_block qb)).trans qb
  clear qvc0 qvc1 qvc2 qvl
  replace qv := (g.block _ (lt_of_block qv)).trans qv
  clear qwc0 qwc1 qwc2 qwl
  replace qw := (g.block _ (lt_of_block qw)).trans qw
  replace bel := chain bel g
  clear g
  obtain ⟨qac0, qac1, qac2⟩ := cells3 qa
  have qal := lt_of_block qa
  obtain ⟨qbc0, qbc1, qbc2⟩ := cells3 qb
  have qbl := lt_of_block qb
  obtain ⟨qvc0, qvc1, qvc2⟩ := cells3 qv
  have qvl := lt_of_block qv
  obtain ⟨qwc0, qwc1, qwc2⟩ := cells3 qw
  have qwl := lt_of_block qw
  go_wp2_with fail
  refine (V4 _).mono ?_
  rintro e w13 ⟨rfl, g⟩
  clear qac0 qac1 qac2 qal
  replace qa := (g.block _ (lt_of_block qa)).trans qa
  clear qbc0 qbc1 qbc2 qbl
  replace qb := (g.block _ (lt_of_block qb)).trans qb
  clear qvc0 qvc1 qvc2 qvl
  replace qv := (g.block _ (lt_of_block qv)).trans qv
  clear qwc0 qwc1 qwc2 qwl
  replace qw := (g.block _ (lt_of_block qw)).trans qw
  replace bel := chain bel g
  clear g
  obtain ⟨qac0, qac1, qac2⟩ := cells3 qa
  have qal := lt_of_block qa
  obtain ⟨qbc0, qbc1, qbc2⟩ := cells3 qb
  have qbl := lt_of_block qb
  obtain ⟨qvc0, qvc1, qvc2⟩ := cells3 qv
  have qvl := lt_of_block qv
  obtain ⟨qwc0, qwc1, qwc2⟩ := cells3 qw
  have qwl := lt_of_block qw
  have fz := frozen3 qv
  go_wp2_with fail
  clear fz
  clear qac0 qac1 qac2 qal
  clear qbc0 qbc1 qbc2 qbl
  clear qvc0 qvc1 qvc2 qvl
  clear qwc0 qwc1 qwc2 qwl
  replace qa := put3_old (B := w1.heap.size) (u0 := .int .i64 k4) (u1 := .int .i64 i4) (u2 := .string (str [])) qa (by omega)
  replace qb := put3_old (B := w1.heap.size) (u0 := .int .i64 k4) (u1 := .int .i64 i4) (u2 := .string (str [])) qb (by omega)
  replace qv := put3 (.int .i64 k4) (.int .i64 i4) (.string (str [])) qv
  replace qw := put3_old (B := w1.heap.size) (u0 := .int .i64 k4) (u1 := .int .i64 i4) (u2 := .string (str [])) qw (by omega)
  replace bel := put3_below (B := w1.heap.size) (u0 := .int .i64 k4) (u1 := .int .i64 i4) (u2 := .string (str [])) bel (by omega)
  obtain ⟨qac0, qac1, qac2⟩ := cells3 qa
  have qal := lt_of_block qa
  obtain ⟨qbc0, qbc1, qbc2⟩ := cells3 qb
  have qbl := lt_of_block qb
  obtain ⟨qvc0, qvc1, qvc2⟩ := cells3 qv
  have qvl := lt_of_block qv
  obtain ⟨qwc0, qwc1, qwc2⟩ := cells3 qw
  have qwl := lt_of_block qw
  refine (R4 _).mono ?_
  rintro e w14 ⟨rfl, g⟩
  clear qac0 qac1 qac2 qal
  replace qa := (g.block _ (lt_of_block qa)).trans qa
  clear qbc0 qbc1 qbc2 qbl
  replace qb := (g.block _ (lt_of_block qb)).trans qb
  clear qvc0 qvc1 qvc2 qvl
  replace qv := (g.block _ (lt_of_block qv)).trans qv
  clear qwc0 qwc1 qwc2 qwl
  replace qw := (g.block _ (lt_of_block qw)).trans qw
  replace bel := chain bel g
  clear g
  obtain ⟨qac0, qac1, qac2⟩ := cells3 qa
  have qal := lt_of_block qa
  obtain ⟨qbc0, qbc1, qbc2⟩ := cells3 qb
  have qbl := lt_of_block qb
  obtain ⟨qvc0, qvc1, qvc2⟩ := cells3 qv
  have qvl := lt_of_block qv
  obtain ⟨qwc0, qwc1, qwc2⟩ := cells3 qw
  have qwl := lt_of_block qw
  have fz := frozen3 qw
  go_wp2_with fail
  clear fz
  clear qac0 qac1 qac2 qal
  clear qbc0 qbc1 qbc2 qbl
  clear qvc0 qvc1 qvc2 qvl
  clear qwc0 qwc1 qwc2 qwl
  replace qa := put3_old (B := w2.heap.size) (u0 := .int .i64 k4) (u1 := .int .i64 i4) (u2 := .string (str [])) qa (by omega)
  replace qb := put3_old (B := w2.heap.size) (u0 := .int .i64 k4) (u1 := .int .i64 i4) (u2 := .string (str [])) qb (by omega)
  replace qv := put3_old (B := w2.heap.size) (u0 := .int .i64 k4) (u1 := .int .i64 i4) (u2 := .string (str [])) qv (by omega)
  replace qw := put3 (.int .i64 k4) (.int .i64 i4) (.string (str [])) qw
  replace bel := put3_below (B := w2.heap.size) (u0 := .int .i64 k4) (u1 := .int .i64 i4) (u2 := .string (str [])) bel (by omega)
  obtain ⟨qac0, qac1, qac2⟩ := cells3 qa
  have qal := lt_of_block qa
  obtain ⟨qbc0, qbc1, qbc2⟩ := cells3 qb
  have qbl := lt_of_block qb
  obtain ⟨qvc0, qvc1, qvc2⟩ := cells3 qv
  have qvl := lt_of_block qv
  obtain ⟨qwc0, qwc1, qwc2⟩ := cells3 qw
  have qwl := lt_of_block qw
  refine (IS4 _).mono ?_
  rintro e w15 ⟨rfl, g⟩
  clear qac0 qac1 qac2 qal
  replace qa := (g.block _ (lt_of_block qa)).trans qa
  clear qbc0 qbc1 qbc2 qbl
  replace qb := (g.block _ (lt_of_block qb)).trans qb
  clear qvc0 qvc1 qvc2 qvl
  replace qv := (g.block _ (lt_of_block qv)).trans qv
  clear qwc0 qwc1 qwc2 qwl
  replace qw := (g.block _ (lt_of_block qw)).trans qw
  replace bel := chain bel g
  clear g
  obtain ⟨qac0, qac1, qac2⟩ := cells3 qa
  have qal := lt_of_block qa
  obtain ⟨qbc0, qbc1, qbc2⟩ := cells3 qb
  have qbl := lt_of_block qb
  obtain ⟨qvc0, qvc1, qvc2⟩ := cells3 qv
  have qvl := lt_of_block qv
  obtain ⟨qwc0, qwc1, qwc2⟩ := cells3 qw
  have qwl := lt_of_block qw
  go_wp2_with fail
  refine (V5 _).mono ?_
  rintro e w16 ⟨rfl, g⟩
  clear qac0 qac1 qac2 qal
  replace qa := (g.block _ (lt_of_block qa)).trans qa
  clear qbc0 qbc1 qbc2 qbl
  replace qb := (g.block _ (lt_of_block qb)).trans qb
  clear qvc0 qvc1 qvc2 qvl
  replace qv := (g.block _ (lt_of_block qv)).trans qv
  clear qwc0 qwc1 qwc2 qwl
  replace qw := (g.block _ (lt_of_block qw)).trans qw
  replace bel := chain bel g
  clear g
  obtain ⟨qac0, qac1, qac2⟩ := cells3 qa
  have qal := lt_of_block qa
  obtain ⟨qbc0, qbc1, qbc2⟩ := cells3 qb
  have qbl := lt_of_block qb
  obtain ⟨qvc0, qvc1, qvc2⟩ := cells3 qv
  have qvl := lt_of_block qv
  obtain ⟨qwc0, qwc1, qwc2⟩ := cells3 qw
  have qwl := lt_of_block qw
  have fz := frozen3 qv
  go_wp2_with fail
  clear fz
  clear qac0 qac1 qac2 qal
  clear qbc0 qbc1 qbc2 qbl
  clear qvc0 qvc1 qvc2 qvl
  clear qwc0 qwc1 qwc2 qwl
  replace qa := put3_old (B := w1.heap.size) (u0 := .int .i64 k5) (u1 := .int .i64 i5) (u2 := .string (str [])) qa (by omega)
  replace qb := put3_old (B := w1.heap.size) (u0 := .int .i64 k5) (u1 := .int .i64 i5) (u2 := .string (str [])) qb (by omega)
  replace qv := put3 (.int .i64 k5) (.int .i64 i5) (.string (str [])) qv
  replace qw := put3_old (B := w1.heap.size) (u0 := .int .i64 k5) (u1 := .int .i64 i5) (u2 := .string (str [])) qw (by omega)
  replace bel := put3_below (B := w1.heap.size) (u0 := .int .i64 k5) (u1 := .int .i64 i5) (u2 := .string (str [])) bel (by omega)
  obtain ⟨qac0, qac1, qac2⟩ := cells3 qa
  have qal := lt_of_block qa
  obtain ⟨qbc0, qbc1, qbc2⟩ := cells3 qb
  have qbl := lt_of_block qb
  obtain ⟨qvc0, qvc1, qvc2⟩ := cells3 qv
  have qvl := lt_of_block qv
  obtain ⟨qwc0, qwc1, qwc2⟩ := cells3 qw
  have qwl := lt_of_block qw
  clear qal qac0 qac1 qac2
  clear qbl qbc0 qbc1 qbc2
  clear qvl qvc0 qvc1 qvc2
  clear qwl qwc0 qwc1 qwc2
  obtain ⟨W1, hW1⟩ : ∃ W1, W1 = (((w16.setCell ⟨w1.heap.size, 0, none⟩ (.int .i64 k5)).setCell ⟨w1.heap.size, 1, none⟩ (.int .i64 i5)).setCell ⟨w1.heap.size, 2, none⟩ (.string (str []))) := ⟨_, rfl⟩
  rw [← hW1] at qa qb qv qw bel ⊢
  clear hW1
  have bel := below_drewN (k := 1) bel
  refine gs_start (S := (fun w' => w'.heap[w.heap.size]? = some (.cells #[.int .i64 ka, .int .i64 ia, .string (str la)] 23 (0, 0)))) (by kernel_rfl) ?_
  refine gs_take (i := 1) (d := (some 118)) (v := ?_) rfl rfl (by kernel_rfl) (fun _ _ _ h => h) (by rfl) qa (fun w' hb' => ?_) ?_
  rotate_left
  · obtain ⟨c0, c1, c2⟩ := cells3 hb'; (try go_simp); (try with_reducible rfl)
  try simp only [Act.put, List.setIfInBounds_toArray, List.set_cons_zero, List.set_cons_succ]
  refine gs_run (i := 0) rfl (by kernel_rfl) (by rfl) (fun K hK => ?_)
  go_simp
  refine (RI _ _).mono ?_
  rintro e y1 ⟨rfl, gg⟩
  have qa := (gg.block _ (lt_of_block qa)).trans qa
  have qb := (gg.block _ (lt_of_block qb)).trans qb
  have qv := (gg.block _ (lt_of_block qv)).trans qv
  have qw := (gg.block _ (lt_of_block qw)).trans qw
  have bel := chain bel gg
  refine hK _ _ ⟨qa, ?_⟩
  clear hK K gg
  try simp only [Act.put, List.setIfInBounds_toArray, List.set_cons_zero, List.set_cons_succ]
  refine gs_run (i := 2) rfl (by kernel_rfl) (by rfl) (fun K hK => ?_)
  go_simp
  refine (R5 _).mono ?_
  rintro e y2 ⟨rfl, gg⟩
  have qa := (gg.block _ (lt_of_block qa)).trans qa
  have qb := (gg.block _ (lt_of_block qb)).trans qb
  have qv := (gg.block _ (lt_of_block qv)).trans qv
  have qw := (gg.block _ (lt_of_block qw)).trans qw
  have bel := chain bel gg
  refine hK _ _ ⟨qa, ?_⟩
  clear hK K gg
  try simp only [Act.put, List.setIfInBounds_toArray, List.set_cons_zero, List.set_cons_succ]
  refine gs_take (i := 3) (d := (some 116)) (v := ?_) rfl rfl (by kernel_rfl) (fun _ _ _ h => h) (by rfl) qa (fun w' hb' => ?_) ?_
  rotate_left
  · (try go_simp); (try with_reducible rfl)
  try simp only [Act.put, List.setIfInBounds_toArray, List.set_cons_zero, List.set_cons_succ]
  refine gs_take (i := 4) (d := (some 120)) (v := ?_) rfl rfl (by kernel_rfl) (fun _ _ _ h => h) (by rfl) qa (fun w' hb' => ?_) ?_
  rotate_left
  · (try go_simp); (try with_reducible rfl)
  try simp only [Act.put, List.setIfInBounds_toArray, List.set_cons_zero, List.set_cons_succ]
  refine gs_take (i := 5) (d := (some 121)) (v := ?_) rfl rfl (by kernel_rfl) (fun _ _ _ h => h) (by rfl) qa (fun w' hb' => ?_) ?_
  rotate_left
  · (try go_simp); (try with_reducible rfl)
  try simp only [Act.put, List.setIfInBounds_toArray, List.set_cons_zero, List.set_cons_succ]
  refine gs_run (i := 6) rfl (by kernel_rfl) (by rfl) (fun K hK => ?_)
  obtain ⟨c0, c1, c2⟩ := cells3 qw
  have cf := frozen3 qw
  have hl := lt_of_block qw
  go_simp
  refine hK _ _ ⟨put3_old (B := w2.heap.size) (u0 := .int .i64 k5) (u1 := .int .i64 i5) (u2 := .string (str [])) qa (by omega), ?_⟩
  clear hK K c0 c1 c2 cf hl
  have qa := put3_old (B := w2.heap.size) (u0 := .int .i64 k5) (u1 := .int .i64 i5) (u2 := .string (str [])) qa (by omega)
  have qb := put3_old (B := w2.heap.size) (u0 := .int .i64 k5) (u1 := .int .i64 i5) (u2 := .string (str [])) qb (by omega)
  have qv := put3_old (B := w2.heap.size) (u0 := .int .i64 k5) (u1 := .int .i64 i5) (u2 := .string (str [])) qv (by omega)
  have qw := put3 (.int .i64 k5) (.int .i64 i5) (.string (str [])) qw
  have bel := put3_below (B := w2.heap.size) (u0 := .int .i64 k5) (u1 := .int .i64 i5) (u2 := .string (str [])) bel (by omega)
  obtain ⟨y3, hy3⟩ : ∃ W, W = (((y2.setCell ⟨w2.heap.size, 0, none⟩ (.int .i64 k5)).setCell ⟨w2.heap.size, 1, none⟩ (.int .i64 i5)).setCell ⟨w2.heap.size, 2, none⟩ (.string (str []))) := ⟨_, rfl⟩
  rw [← hy3] at qa qb qv qw bel
  rw [← hy3]
  clear hy3
  try simp only [Act.put, List.setIfInBounds_toArray, List.set_cons_zero, List.set_cons_succ]
  refine gs_take (i := 7) (d := (some 8)) (v := ?_) rfl rfl (by kernel_rfl) (fun _ _ _ h => h) (by rfl) qa (fun w' hb' => ?_) ?_
  rotate_left
  · (try go_simp); (try with_reducible rfl)
  try simp only [Act.put, List.setIfInBounds_toArray, List.set_cons_zero, List.set_cons_succ]
  refine gs_done (by kernel_rfl) ?_
  obtain ⟨qvc0, qvc1, qvc2⟩ := cells3 qv
  have qvl := lt_of_block qv
  obtain ⟨qwc0, qwc1, qwc2⟩ := cells3 qw
  have qwl := lt_of_block qw
  go_wp2_with fail
  refine (IS5 _).mono ?_
  rintro e w18 ⟨rfl, g⟩
  clear qvc0 qvc1 qvc2 qvl
  replace qv := (g.block _ (lt_of_block qv)).trans qv
  clear qwc0 qwc1 qwc2 qwl
  replace qw := (g.block _ (lt_of_block qw)).trans qw
  replace bel := chain bel g
  clear g
  obtain ⟨qvc0, qvc1, qvc2⟩ := cells3 qv
  have qvl := lt_of_block qv
  obtain ⟨qwc0, qwc1, qwc2⟩ := cells3 qw
  have qwl := lt_of_block qw
  go_wp2_with fail
  refine (AW _).mono ?_
  rintro e w19 ⟨rfl, g⟩
  clear qvc0 qvc1 qvc2 qvl
  replace qv := (g.block _ (lt_of_block qv)).trans qv
  clear qwc0 qwc1 qwc2 qwl
  replace qw := (g.block _ (lt_of_block qw)).trans qw
  replace bel := chain bel g
  clear g
  obtain ⟨qvc0, qvc1, qvc2⟩ := cells3 qv
  have qvl := lt_of_block qv
  obtain ⟨qwc0, qwc1, qwc2⟩ := cells3 qw
  have qwl := lt_of_block qw
  go_wp2_with fail
  go_ret
  exact ⟨rfl, bel⟩
theorem reckons_row (ka ia : Int) (sa : List UInt8) (kb ib : Int) (sb : List UInt8) (w : World) (wka : (Lit.int .i64 ka).wf = true) (wia : (Lit.int .i64 ia).wf = true) (ha : sa.length ≤ maxLen)
    (wkb : (Lit.int .i64 kb).wf = true) (wib : (Lit.int .i64 ib).wf = true) (hb : sb.length ≤ maxLen) :
    Calls Try.prog 4 #[.agg #[.int .i64 ka, .int .i64 ia, .string (str sa)], .agg #[.int .i64 kb, .int .i64 ib, .string (str sb)]] w fun e w' => e = .returned (.bool true) ∧ Below w.heap.size w w' := by
  have la : (sa.take 200).length ≤ maxLen := Nat.le_trans (List.length_take_le' _ _) ha
  have lb : (sb.take 200).length ≤ maxLen := Nat.le_trans (List.length_take_le' _ _) hb
  have fa := fits_of_wf wia
  have fb := fits_of_wf wib
  have l0 : ([] : List UInt8).length ≤ maxLen := by decide
  have f0 : fits 0 := by decide
  exact reckons_way ka ia sa kb ib sb (sa.take 200) (sb.take 200) _ _ _ _ _ _ _ _ _ _ _ _ _ _ _ _ _ _ w (fun w => few_any ka ia sa w ha) (fun w => few_any kb ib sb w hb)
    (fun w => add_any ka ia _ kb ib _ la lb fa fb w) (fun w => two_0 ka ia _ kb ib _ la lb fa fb w)
    (fun w => sub_any ka ia _ kb ib _ la lb fa fb w) (fun w => two_1 ka ia _ kb ib _ la lb fa fb w)
    (fun w => mul_any ka ia _ kb ib _ la lb fa fb w) (fun w => two_2 ka ia _ kb ib _ la lb fa fb w)
    (fun w => div_any ka ia _ kb ib _ la lb w) (fun w => two_3 ka ia _ kb ib _ la lb fa fb w)
    (fun w => mod_any ka ia _ kb ib _ la lb w) (fun w => two_4 ka ia _ kb ib _ la lb fa fb w)
    (fun w => minus_way ka ia _ _ _ _ w (fun w => sub_any 2 0 [] ka ia _ l0 la f0 fa w)) (fun w => two_1 2 0 [] ka ia _ l0 la f0 fa w)
end Go.Proofs.Ythakimgpaemfeaa
