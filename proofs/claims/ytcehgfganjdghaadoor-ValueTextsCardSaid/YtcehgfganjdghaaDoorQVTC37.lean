/- Values: the law ValueTexts, some of its ways. Written by wip/tools/gen9q3.py. -/
import Derived.Test.YtcehgfganjdghaaDoorQVTC34
namespace Go.Proofs.YtcehgfganjdghaaDoor.V7
open Go Go.RowKit
set_option linter.unusedVariables false
set_option linter.unusedSimpArgs false
set_option maxRecDepth 100000 in
set_option maxHeartbeats 8000000 in
theorem texts_3t (ia : Int) (sa : List UInt8) (kb : Int) (ib : Int) (sb : List UInt8) (la lb : List UInt8) (ss : List UInt8) (w : World)
    (FA : ∀ w, Calls Tryd.prog 36 #[.agg #[.int .i64 3, .int .i64 ia, .string (str sa)]] w fun e w' => e = .returned (.agg #[.int .i64 3, .int .i64 ia, .string (str la)]) ∧ Below w.heap.size w w')
    (FB : ∀ w, Calls Tryd.prog 36 #[.agg #[.int .i64 kb, .int .i64 ib, .string (str sb)]] w fun e w' => e = .returned (.agg #[.int .i64 kb, .int .i64 ib, .string (str lb)]) ∧ Below w.heap.size w w')
    (CJ : ∀ w, Calls Tryd.prog 37 #[.agg #[.int .i64 3, .int .i64 ia, .string (str la)], .agg #[.int .i64 kb, .int .i64 ib, .string (str lb)]] w fun e w' => e = .returned (.tuple #[.agg #[.int .i64 0, .int .i64 0, .string (str [])], .int .i64 10]) ∧ Below w.heap.size w w')
    (CL : ∀ w, Calls Tryd.prog 38 #[.agg #[.int .i64 3, .int .i64 ia, .string (str la)]] w fun e w' => e = .returned (.tuple #[.agg #[.int .i64 2, .int .i64 (la.length : Int), .string (str [])], .int .i64 0]) ∧ Below w.heap.size w w')
    (CN : ∀ w, Calls Tryd.prog 39 #[.agg #[.int .i64 3, .int .i64 ia, .string (str la)]] w fun e w' => e = .returned (.tuple #[.agg #[.int .i64 0, .int .i64 0, .string (str [])], .int .i64 10]) ∧ Below w.heap.size w w')
    (CS : ∀ W, Below w.heap.size w W → Calls Tryd.prog 40 #[.agg #[.int .i64 3, .int .i64 ia, .string (str la)]] W fun e w' => e = .returned (.tuple #[.agg #[.int .i64 3, .int .i64 0, .string (str ss)], .int .i64 0]) ∧ Below W.heap.size W w')
    (RMA : ∀ w, Calls Tryd.prog 41 #[.agg #[.int .i64 3, .int .i64 ia, .string (str la)]] w fun e w' => e = .returned (.bool true) ∧ Below w.heap.size w w')
    (CRS : ∀ w, Calls Tryd.prog 43 #[.agg #[.int .i64 3, .int .i64 ia, .string (str la)]] w fun e w' => e = .returned (.string (str ss)) ∧ Below w.heap.size w w')
    (RMB : ∀ w, Calls Tryd.prog 41 #[.agg #[.int .i64 kb, .int .i64 ib, .string (str lb)]] w fun e w' => e = .returned (.bool true) ∧ Below w.heap.size w w')
    (hla : la.length ≤ 200) (hlb : lb.length ≤ 200) (hkb : (kb != 3) = true) :
    Calls Tryd.prog 9 #[.agg #[.int .i64 3, .int .i64 ia, .string (str sa)], .agg #[.int .i64 kb, .int .i64 ib, .string (str sb)]] w fun e w' => e = .returned (.bool true) ∧ Below w.heap.size w w' := by
  have AW := awake_any
  have IS := is_same 0 0 [] 10
  obtain ⟨qa, qb, -, -⟩ := two_allocs w (.cells #[.int .i64 3, .int .i64 ia, .string (str sa)] 30) (.cells #[.int .i64 kb, .int .i64 ib, .string (str sb)] 30)
  have bel : Below w.heap.size w ((w.alloc (.cells #[.int .i64 3, .int .i64 ia, .string (str sa)] 30)).alloc (.cells #[.int .i64 kb, .int .i64 ib, .string (str sb)] 30)) := ((Below.refl _ w).alloc (Nat.le_refl _) _).alloc (by simp) _
  go_enter Tryd.func9, Tryd.ntmps9
  go_wp2_with fail
  obtain ⟨W0, hW0⟩ : ∃ W0, W0 = (w.alloc (.cells #[.int .i64 3, .int .i64 ia, .string (str sa)] 30)).alloc (.cells #[.int .i64 kb, .int .i64 ib, .string (str sb)] 30) := ⟨_, rfl⟩
  rw [← hW0] at qa qb bel ⊢
  clear hW0
  have bel := below_drewN (k := 1) bel
  refine t_start 4 (by kernel_rfl) ?_
  refine t_take (i := 0) (d := (some 16)) (v := ?_) rfl rfl (by kernel_rfl) (fun _ _ _ h => h) (by rfl) (fun w' hb' => ?_) ?_
  rotate_left
  · have zz := (hb'.block _ (lt_of_block qa)).trans qa; obtain ⟨c0, c1, c2⟩ := cells3 zz; (try go_simp); (try with_reducible rfl)
  try simp only [Act.put, List.setIfInBounds_toArray, List.set_cons_zero, List.set_cons_succ]
  refine t_take (i := 2) (d := (some 18)) (v := ?_) rfl rfl (by kernel_rfl) (fun _ _ _ h => h) (by rfl) (fun w' hb' => ?_) ?_
  rotate_left
  · have zz := (hb'.block _ (lt_of_block qb)).trans qb; obtain ⟨c0, c1, c2⟩ := cells3 zz; (try go_simp); (try with_reducible rfl)
  try simp only [Act.put, List.setIfInBounds_toArray, List.set_cons_zero, List.set_cons_succ]
  refine t_run (i := 1) rfl (by kernel_rfl) (by kernel_rfl) (by rfl) (fun K hK => ?_)
  go_simp
  refine (FA _).mono ?_
  rintro e y1 ⟨rfl, gg⟩
  have qa := (gg.block _ (lt_of_block qa)).trans qa
  have qb := (gg.block _ (lt_of_block qb)).trans qb
  have bel := chain bel gg
  refine hK _ _ ⟨gg, ?_⟩
  clear hK K gg
  try simp only [Act.put, List.setIfInBounds_toArray, List.set_cons_zero, List.set_cons_succ]
  refine t_run (i := 3) rfl (by kernel_rfl) (by kernel_rfl) (by rfl) (fun K hK => ?_)
  go_simp
  refine (FB _).mono ?_
  rintro e y2 ⟨rfl, gg⟩
  have qa := (gg.block _ (lt_of_block qa)).trans qa
  have qb := (gg.block _ (lt_of_block qb)).trans qb
  have bel := chain bel gg
  refine hK _ _ ⟨gg, ?_⟩
  clear hK K gg
  try simp only [Act.put, List.setIfInBounds_toArray, List.set_cons_zero, List.set_cons_succ]
  refine t_into ?_
  refine t_tail (i := 4) rfl (by kernel_rfl) (by kernel_rfl) (by rfl) (fun K hK => ?_)
  obtain ⟨c0, c1, c2⟩ := cells3 qa
  have cf := frozen3 qa
  have hl := lt_of_block qa
  go_simp
  refine hK _ _ ?_
  clear hK K c0 c1 c2 cf hl
  have qa := put3 (.int .i64 3) (.int .i64 ia) (.string (str la)) qa
  have qb := put3_old (B := w.heap.size) (u0 := .int .i64 3) (u1 := .int .i64 ia) (u2 := .string (str la)) qb (by omega)
  have bel := put3_below (B := w.heap.size) (u0 := .int .i64 3) (u1 := .int .i64 ia) (u2 := .string (str la)) bel (by omega)
  obtain ⟨y3, hy3⟩ : ∃ W, W = (((y2.setCell ⟨w.heap.size, 0, none⟩ (.int .i64 3)).setCell ⟨w.heap.size, 1, none⟩ (.int .i64 ia)).setCell ⟨w.heap.size, 2, none⟩ (.string (str la))) := ⟨_, rfl⟩
  rw [← hy3] at qa qb bel
  change wpO _ _ _ _ _ _ _ (((y2.setCell ⟨w.heap.size, 0, none⟩ (.int .i64 3)).setCell ⟨w.heap.size, 1, none⟩ (.int .i64 ia)).setCell ⟨w.heap.size, 2, none⟩ (.string (str la)))
  rw [← hy3]
  clear hy3
  try simp only [Act.put, List.setIfInBounds_toArray, List.set_cons_zero, List.set_cons_succ]
  refine t_tail (i := 5) rfl (by kernel_rfl) (by kernel_rfl) (by rfl) (fun K hK => ?_)
  obtain ⟨c0, c1, c2⟩ := cells3 qb
  have cf := frozen3 qb
  have hl := lt_of_block qb
  go_simp
  refine hK _ _ ?_
  clear hK K c0 c1 c2 cf hl
  have qa := put3_old (B := w.heap.size + 1) (u0 := .int .i64 kb) (u1 := .int .i64 ib) (u2 := .string (str lb)) qa (by omega)
  have qb := put3 (.int .i64 kb) (.int .i64 ib) (.string (str lb)) qb
  have bel := put3_below (B := w.heap.size + 1) (u0 := .int .i64 kb) (u1 := .int .i64 ib) (u2 := .string (str lb)) bel (by omega)
  obtain ⟨y4, hy4⟩ : ∃ W, W = (((y3.setCell ⟨w.heap.size + 1, 0, none⟩ (.int .i64 kb)).setCell ⟨w.heap.size + 1, 1, none⟩ (.int .i64 ib)).setCell ⟨w.heap.size + 1, 2, none⟩ (.string (str lb))) := ⟨_, rfl⟩
  rw [← hy4] at qa qb bel
  change wpO _ _ _ _ _ _ _ (((y3.setCell ⟨w.heap.size + 1, 0, none⟩ (.int .i64 kb)).setCell ⟨w.heap.size + 1, 1, none⟩ (.int .i64 ib)).setCell ⟨w.heap.size + 1, 2, none⟩ (.string (str lb)))
  rw [← hy4]
  clear hy4
  try simp only [Act.put, List.setIfInBounds_toArray, List.set_cons_zero, List.set_cons_succ]
  refine t_over (by kernel_rfl) ?_
  obtain ⟨qac0, qac1, qac2⟩ := cells3 qa
  have qal := lt_of_block qa
  obtain ⟨qbc0, qbc1, qbc2⟩ := cells3 qb
  have qbl := lt_of_block qb
  go_wp2_with fail
  refine (CJ _).mono ?_
  rintro e w1 ⟨rfl, g⟩
  clear qac0 qac1 qac2 qal
  replace qa := (g.block _ (lt_of_block qa)).trans qa
  clear qbc0 qbc1 qbc2 qbl
  replace qb := (g.block _ (lt_of_block qb)).trans qb
  replace bel := chain bel g
  clear g
  obtain ⟨qac0, qac1, qac2⟩ := cells3 qa
  have qal := lt_of_block qa
  obtain ⟨qbc0, qbc1, qbc2⟩ := cells3 qb
  have qbl := lt_of_block qb
  clear qac0 qac1 qac2 qal
  replace qa := (heap_alloc_old w1 (.cells #[.int .i64 0, .int .i64 0, .string (str [])] 30) (lt_of_block qa)).trans qa
  clear qbc0 qbc1 qbc2 qbl
  replace qb := (heap_alloc_old w1 (.cells #[.int .i64 0, .int .i64 0, .string (str [])] 30) (lt_of_block qb)).trans qb
  have qj := heap_alloc_new w1 (.cells #[.int .i64 0, .int .i64 0, .string (str [])] 30)
  replace bel := bel.alloc bel.size (.cells #[.int .i64 0, .int .i64 0, .string (str [])] 30)
  obtain ⟨qac0, qac1, qac2⟩ := cells3 qa
  have qal := lt_of_block qa
  obtain ⟨qbc0, qbc1, qbc2⟩ := cells3 qb
  have qbl := lt_of_block qb
  obtain ⟨qjc0, qjc1, qjc2⟩ := cells3 qj
  have qjl := lt_of_block qj
  go_wp2_with fail
  refine (CL _).mono ?_
  rintro e w2 ⟨rfl, g⟩
  clear qac0 qac1 qac2 qal
  replace qa := (g.block _ (lt_of_block qa)).trans qa
  clear qbc0 qbc1 qbc2 qbl
  replace qb := (g.block _ (lt_of_block qb)).trans qb
  clear qjc0 qjc1 qjc2 qjl
  replace qj := (g.block _ (lt_of_block qj)).trans qj
  replace bel := chain bel g
  clear g
  obtain ⟨qac0, qac1, qac2⟩ := cells3 qa
  have qal := lt_of_block qa
  obtain ⟨qbc0, qbc1, qbc2⟩ := cells3 qb
  have qbl := lt_of_block qb
  obtain ⟨qjc0, qjc1, qjc2⟩ := cells3 qj
  have qjl := lt_of_block qj
  clear qac0 qac1 qac2 qal
  replace qa := (heap_alloc_old w2 (.cells #[.int .i64 2, .int .i64 (la.length : Int), .string (str [])] 30) (lt_of_block qa)).trans qa
  clear qbc0 qbc1 qbc2 qbl
  replace qb := (heap_alloc_old w2 (.cells #[.int .i64 2, .int .i64 (la.length : Int), .string (str [])] 30) (lt_of_block qb)).trans qb
  clear qjc0 qjc1 qjc2 qjl
  replace qj := (heap_alloc_old w2 (.cells #[.int .i64 2, .int .i64 (la.length : Int), .string (str [])] 30) (lt_of_block qj)).trans qj
  have ql := heap_alloc_new w2 (.cells #[.int .i64 2, .int .i64 (la.length : Int), .string (str [])] 30)
  replace bel := bel.alloc bel.size (.cells #[.int .i64 2, .int .i64 (la.length : Int), .string (str [])] 30)
  obtain ⟨qac0, qac1, qac2⟩ := cells3 qa
  have qal := lt_of_block qa
  obtain ⟨qbc0, qbc1, qbc2⟩ := cells3 qb
  have qbl := lt_of_block qb
  obtain ⟨qjc0, qjc1, qjc2⟩ := cells3 qj
  have qjl := lt_of_block qj
  obtain ⟨qlc0, qlc1, qlc2⟩ := cells3 ql
  have qll := lt_of_block ql
  go_wp2_with fail
  refine (CN _).mono ?_
  rintro e w3 ⟨rfl, g⟩
  clear qac0 qac1 qac2 qal
  replace qa := (g.block _ (lt_of_block qa)).trans qa
  clear qbc0 qbc1 qbc2 qbl
  replace qb := (g.block _ (lt_of_block qb)).trans qb
  clear qjc0 qjc1 qjc2 qjl
  replace qj := (g.block _ (lt_of_block qj)).trans qj
  clear qlc0 qlc1 qlc2 qll
  replace ql := (g.block _ (lt_of_block ql)).trans ql
  replace bel := chain bel g
  clear g
  obtain ⟨qac0, qac1, qac2⟩ := cells3 qa
  have qal := lt_of_block qa
  obtain ⟨qbc0, qbc1, qbc2⟩ := cells3 qb
  have qbl := lt_of_block qb
  obtain ⟨qjc0, qjc1, qjc2⟩ := cells3 qj
  have qjl := lt_of_block qj
  obtain ⟨qlc0, qlc1, qlc2⟩ := cells3 ql
  have qll := lt_of_block ql
  clear qac0 qac1 qac2 qal
  replace qa := (heap_alloc_old w3 (.cells #[.int .i64 0, .int .i64 0, .string (str [])] 30) (lt_of_block qa)).trans qa
  clear qbc0 qbc1 qbc2 qbl
  replace qb := (heap_alloc_old w3 (.cells #[.int .i64 0, .int .i64 0, .string (str [])] 30) (lt_of_block qb)).trans qb
  clear qjc0 qjc1 qjc2 qjl
  replace qj := (heap_alloc_old w3 (.cells #[.int .i64 0, .int .i64 0, .string (str [])] 30) (lt_of_block qj)).trans qj
  clear qlc0 qlc1 qlc2 qll
  replace ql := (heap_alloc_old w3 (.cells #[.int .i64 0, .int .i64 0, .string (str [])] 30) (lt_of_block ql)).trans ql
  have qn := heap_alloc_new w3 (.cells #[.int .i64 0, .int .i64 0, .string (str [])] 30)
  replace bel := bel.alloc bel.size (.cells #[.int .i64 0, .int .i64 0, .string (str [])] 30)
  obtain ⟨qac0, qac1, qac2⟩ := cells3 qa
  have qal := lt_of_block qa
  obtain ⟨qbc0, qbc1, qbc2⟩ := cells3 qb
  have qbl := lt_of_block qb
  obtain ⟨qjc0, qjc1, qjc2⟩ := cells3 qj
  have qjl := lt_of_block qj
  obtain ⟨qlc0, qlc1, qlc2⟩ := cells3 ql
  have qll := lt_of_block ql
  obtain ⟨qnc0, qnc1, qnc2⟩ := cells3 qn
  have qnl := lt_of_block qn
  go_wp2_with fail
  refine (CS _ bel).mono ?_
  rintro e w4 ⟨rfl, g⟩
  clear qac0 qac1 qac2 qal
  replace qa := (g.block _ (lt_of_block qa)).trans qa
  clear qbc0 qbc1 qbc2 qbl
  replace qb := (g.block _ (lt_of_block qb)).trans qb
  clear qjc0 qjc1 qjc2 qjl
  replace qj := (g.block _ (lt_of_block qj)).trans qj
  clear qlc0 qlc1 qlc2 qll
  replace ql := (g.block _ (lt_of_block ql)).trans ql
  clear qnc0 qnc1 qnc2 qnl
  replace qn := (g.block _ (lt_of_block qn)).trans qn
  replace bel := chain bel g
  clear g
  obtain ⟨qac0, qac1, qac2⟩ := cells3 qa
  have qal := lt_of_block qa
  obtain ⟨qbc0, qbc1, qbc2⟩ := cells3 qb
  have qbl := lt_of_block qb
  obtain ⟨qjc0, qjc1, qjc2⟩ := cells3 qj
  have qjl := lt_of_block qj
  obtain ⟨qlc0, qlc1, qlc2⟩ := cells3 ql
  have qll := lt_of_block ql
  obtain ⟨qnc0, qnc1, qnc2⟩ := cells3 qn
  have qnl := lt_of_block qn
  clear qac0 qac1 qac2 qal
  replace qa := (heap_alloc_old w4 (.cells #[.int .i64 3, .int .i64 0, .string (str ss)] 30) (lt_of_block qa)).trans qa
  clear qbc0 qbc1 qbc2 qbl
  replace qb := (heap_alloc_old w4 (.cells #[.int .i64 3, .int .i64 0, .string (str ss)] 30) (lt_of_block qb)).trans qb
  clear qjc0 qjc1 qjc2 qjl
  replace qj := (heap_alloc_old w4 (.cells #[.int .i64 3, .int .i64 0, .string (str ss)] 30) (lt_of_block qj)).trans qj
  clear qlc0 qlc1 qlc2 qll
  replace ql := (heap_alloc_old w4 (.cells #[.int .i64 3, .int .i64 0, .string (str ss)] 30) (lt_of_block ql)).trans ql
  clear qnc0 qnc1 qnc2 qnl
  replace qn := (heap_alloc_old w4 (.cells #[.int .i64 3, .int .i64 0, .string (str ss)] 30) (lt_of_block qn)).trans qn
  have qs := heap_alloc_new w4 (.cells #[.int .i64 3, .int .i64 0, .string (str ss)] 30)
  replace bel := bel.alloc bel.size (.cells #[.int .i64 3, .int .i64 0, .string (str ss)] 30)
  obtain ⟨qac0, qac1, qac2⟩ := cells3 qa
  have qal := lt_of_block qa
  obtain ⟨qbc0, qbc1, qbc2⟩ := cells3 qb
  have qbl := lt_of_block qb
  obtain ⟨qjc0, qjc1, qjc2⟩ := cells3 qj
  have qjl := lt_of_block qj
  obtain ⟨qlc0, qlc1, qlc2⟩ := cells3 ql
  have qll := lt_of_block ql
  obtain ⟨qnc0, qnc1, qnc2⟩ := cells3 qn
  have qnl := lt_of_block qn
  obtain ⟨qsc0, qsc1, qsc2⟩ := cells3 qs
  have qsl := lt_of_block qs
  go_wp2_with fail
  refine (RMA _).mono ?_
  rintro e w5 ⟨rfl, g⟩
  clear qac0 qac1 qac2 qal
  replace qa := (g.block _ (lt_of_block qa)).trans qa
  clear qbc0 qbc1 qbc2 qbl
  replace qb := (g.block _ (lt_of_block qb)).trans qb
  clear qjc0 qjc1 qjc2 qjl
  replace qj := (g.block _ (lt_of_block qj)).trans qj
  clear qlc0 qlc1 qlc2 qll
  replace ql := (g.block _ (lt_of_block ql)).trans ql
  clear qnc0 qnc1 qnc2 qnl
  replace qn := (g.block _ (lt_of_block qn)).trans qn
  clear qsc0 qsc1 qsc2 qsl
  replace qs := (g.block _ (lt_of_block qs)).trans qs
  replace bel := chain bel g
  clear g
  obtain ⟨qac0, qac1, qac2⟩ := cells3 qa
  have qal := lt_of_block qa
  obtain ⟨qbc0, qbc1, qbc2⟩ := cells3 qb
  have qbl := lt_of_block qb
  obtain ⟨qjc0, qjc1, qjc2⟩ := cells3 qj
  have qjl := lt_of_block qj
  obtain ⟨qlc0, qlc1, qlc2⟩ := cells3 ql
  have qll := lt_of_block ql
  obtain ⟨qnc0, qnc1, qnc2⟩ := cells3 qn
  have qnl := lt_of_block qn
  obtain ⟨qsc0, qsc1, qsc2⟩ := cells3 qs
  have qsl := lt_of_block qs
  go_wp2_with fail
  clear qal qac0 qac1 qac2
  clear qbl qbc0 qbc1 qbc2
  clear qjl qjc0 qjc1 qjc2
  clear qll qlc0 qlc1 qlc2
  clear qnl qnc0 qnc1 qnc2
  clear qsl qsc0 qsc1 qsc2
  have bel := below_drewN (k := 1) bel
  refine g_start (by kernel_rfl) ?_
  refine g_take (i := 0) (d := (some 82)) (v := ?_) rfl rfl (by kernel_rfl) (fun _ _ _ h => h) (by rfl) (fun w' hb' => ?_) ?_
  rotate_left
  · (try go_simp); (try with_reducible rfl)
  try simp only [Act.put, List.setIfInBounds_toArray, List.set_cons_zero, List.set_cons_succ]
  refine g_take (i := 1) (d := (some 83)) (v := ?_) rfl rfl (by kernel_rfl) (fun _ _ _ h => h) (by rfl) (fun w' hb' => ?_) ?_
  rotate_left
  · (try go_simp); (try with_reducible rfl)
  try simp only [Act.put, List.setIfInBounds_toArray, List.set_cons_zero, List.set_cons_succ]
  refine g_take (i := 2) (d := (some 84)) (v := ?_) rfl rfl (by kernel_rfl) (fun _ _ _ h => h) (by rfl) (fun w' hb' => ?_) ?_
  rotate_left
  · (try go_simp); (try with_reducible rfl)
  try simp only [Act.put, List.setIfInBounds_toArray, List.set_cons_zero, List.set_cons_succ]
  refine g_take (i := 3) (d := (some 85)) (v := ?_) rfl rfl (by kernel_rfl) (fun _ _ _ h => h) (by rfl) (fun w' hb' => ?_) ?_
  rotate_left
  · have zz := (hb'.block _ (lt_of_block qs)).trans qs; obtain ⟨c0, c1, c2⟩ := cells3 zz; (try go_simp); (try with_reducible rfl)
  try simp only [Act.put, List.setIfInBounds_toArray, List.set_cons_zero, List.set_cons_succ]
  refine g_take (i := 4) (d := (some 86)) (v := ?_) rfl rfl (by kernel_rfl) (fun _ _ _ h => h) (by rfl) (fun w' hb' => ?_) ?_
  rotate_left
  · have zz := (hb'.block _ (lt_of_block qa)).trans qa; obtain ⟨c0, c1, c2⟩ := cells3 zz; (try go_simp); (try with_reducible rfl)
  try simp only [Act.put, List.setIfInBounds_toArray, List.set_cons_zero, List.set_cons_succ]
  refine g_run (i := 5) rfl (by kernel_rfl) (by rfl) (fun K hK => ?_)
  go_simp
  refine (CRS _).mono ?_
  rintro e w6 ⟨rfl, gg⟩
  have qa := (gg.block _ (lt_of_block qa)).trans qa
  have qb := (gg.block _ (lt_of_block qb)).trans qb
  have qj := (gg.block _ (lt_of_block qj)).trans qj
  have ql := (gg.block _ (lt_of_block ql)).trans ql
  have qn := (gg.block _ (lt_of_block qn)).trans qn
  have qs := (gg.block _ (lt_of_block qs)).trans qs
  have bel := chain bel gg
  refine hK _ _ ⟨gg, ?_⟩
  clear hK K gg
  try simp only [Act.put, List.setIfInBounds_toArray, List.set_cons_zero, List.set_cons_succ]
  refine g_run (i := 6) rfl (by kernel_rfl) (by rfl) (fun K hK => ?_)
  go_simp
  refine hK _ _ ⟨Below.refl _ _, ?_⟩
  clear hK K
  try simp only [Act.put, List.setIfInBounds_toArray, List.set_cons_zero, List.set_cons_succ]
  refine g_take (i := 7) (d := (some 89)) (v := ?_) rfl rfl (by kernel_rfl) (fun _ _ _ h => h) (by rfl) (fun w' hb' => ?_) ?_
  rotate_left
  · (refine val_ne_op _ _ (.tmp 85) (.tmp 88) 30 3 0 ss ?_ ?_ ?_ w' <;> rfl); (try go_simp); (try with_reducible rfl)
  try simp only [Act.put, List.setIfInBounds_toArray, List.set_cons_zero, List.set_cons_succ]
  refine g_take (i := 8) (d := (some 90)) (v := ?_) rfl rfl (by kernel_rfl) (fun _ _ _ h => h) (by rfl) (fun w' hb' => ?_) ?_
  rotate_left
  · (try go_simp); (try with_reducible rfl)
  try simp only [Act.put, List.setIfInBounds_toArray, List.set_cons_zero, List.set_cons_succ]
  refine g_done (by kernel_rfl) ?_
  obtain ⟨qac0, qac1, qac2⟩ := cells3 qa
  have qal := lt_of_block qa
  obtain ⟨qbc0, qbc1, qbc2⟩ := cells3 qb
  have qbl := lt_of_block qb
  obtain ⟨qjc0, qjc1, qjc2⟩ := cells3 qj
  have qjl := lt_of_block qj
  obtain ⟨qlc0, qlc1, qlc2⟩ := cells3 ql
  have qll := lt_of_block ql
  obtain ⟨qnc0, qnc1, qnc2⟩ := cells3 qn
  have qnl := lt_of_block qn
  obtain ⟨qsc0, qsc1, qsc2⟩ := cells3 qs
  have qsl := lt_of_block qs
  have VN : ∀ w, (binOp .neq 30 (.agg #[.int .i64 0, .int .i64 0, .string (str [])]) (.agg #[.int .i64 0, .int .i64 0, .string (ByteArray.mk #[])])).run Tryd.prog w = .ok (.bool false) w := fun w => val_ne 0 0 [] w
  have hza : (str la).size ≤ 200 := by rw [str_size]; exact hla
  have hzb : (str lb).size ≤ 200 := by rw [str_size]; exact hlb
  have sza : ((str la).size : Int) = (la.length : Int) := by rw [str_size]
  have szb : ((str lb).size : Int) = (lb.length : Int) := by rw [str_size]
  go_wp2_with fail
  clear qal qac0 qac1 qac2
  clear qbl qbc0 qbc1 qbc2
  clear qjl qjc0 qjc1 qjc2
  clear qll qlc0 qlc1 qlc2
  clear qnl qnc0 qnc1 qnc2
  clear qsl qsc0 qsc1 qsc2
  have bel := below_drewN (k := 1) bel
  refine g_start (by kernel_rfl) ?_
  refine g_take (i := 0) (d := (some 94)) (v := ?_) rfl rfl (by kernel_rfl) (fun _ _ _ h => h) (by rfl) (fun w' hb' => ?_) ?_
  rotate_left
  · have zz := (hb'.block _ (lt_of_block ql)).trans ql; obtain ⟨c0, c1, c2⟩ := cells3 zz; (try go_simp); (try with_reducible rfl)
  try simp only [Act.put, List.setIfInBounds_toArray, List.set_cons_zero, List.set_cons_succ]
  refine g_take (i := 1) (d := (some 95)) (v := ?_) rfl rfl (by kernel_rfl) (fun _ _ _ h => h) (by rfl) (fun w' hb' => ?_) ?_
  rotate_left
  · have zz := (hb'.block _ (lt_of_block qa)).trans qa; obtain ⟨c0, c1, c2⟩ := cells3 zz; (try go_simp); (try with_reducible rfl)
  try simp only [Act.put, List.setIfInBounds_toArray, List.set_cons_zero, List.set_cons_succ]
  refine g_take (i := 2) (d := (some 96)) (v := ?_) rfl rfl (by kernel_rfl) (fun _ _ _ h => h) (by rfl) (fun w' hb' => ?_) ?_
  rotate_left
  · have zz := (hb'.block _ (lt_of_block qa)).trans qa; obtain ⟨c0, c1, c2⟩ := cells3 zz; (try go_simp); (try with_reducible rfl)
  try simp only [Act.put, List.setIfInBounds_toArray, List.set_cons_zero, List.set_cons_succ]
  refine g_take (i := 3) (d := (some 97)) (v := ?_) rfl rfl (by kernel_rfl) (fun _ _ _ h => h) (by rfl) (fun w' hb' => ?_) ?_
  rotate_left
  · (try go_simp); (try with_reducible rfl)
  try simp only [Act.put, List.setIfInBounds_toArray, List.set_cons_zero, List.set_cons_succ]
  refine g_run (i := 4) rfl (by kernel_rfl) (by rfl) (fun K hK => ?_)
  go_simp
  refine (refInt_any _ _).mono ?_
  rintro e w7 ⟨rfl, gg⟩
  have qa := (gg.block _ (lt_of_block qa)).trans qa
  have qb := (gg.block _ (lt_of_block qb)).trans qb
  have qj := (gg.block _ (lt_of_block qj)).trans qj
  have ql := (gg.block _ (lt_of_block ql)).trans ql
  have qn := (gg.block _ (lt_of_block qn)).trans qn
  have qs := (gg.block _ (lt_of_block qs)).trans qs
  have bel := chain bel gg
  refine hK _ _ ⟨gg, ?_⟩
  clear hK K gg
  try simp only [Act.put, List.setIfInBounds_toArray, List.set_cons_zero, List.set_cons_succ]
  refine g_take (i := 5) (d := (some 99)) (v := ?_) rfl rfl (by kernel_rfl) (fun _ _ _ h => h) (by rfl) (fun w' hb' => ?_) ?_
  rotate_left
  · (refine val_ne_op _ _ (.tmp 94) (.tmp 98) 30 2 (la.length : Int) [] ?_ ?_ ?_ w' <;> rfl); (try go_simp); (try with_reducible rfl)
  try simp only [Act.put, List.setIfInBounds_toArray, List.set_cons_zero, List.set_cons_succ]
  refine g_take (i := 6) (d := (some 100)) (v := ?_) rfl rfl (by kernel_rfl) (fun _ _ _ h => h) (by rfl) (fun w' hb' => ?_) ?_
  rotate_left
  · (try go_simp); (try with_reducible rfl)
  try simp only [Act.put, List.setIfInBounds_toArray, List.set_cons_zero, List.set_cons_succ]
  refine g_take (i := 7) (d := (some 101)) (v := ?_) rfl rfl (by kernel_rfl) (fun _ _ _ h => h) (by rfl) (fun w' hb' => ?_) ?_
  rotate_left
  · (try go_simp); (try with_reducible rfl)
  try simp only [Act.put, List.setIfInBounds_toArray, List.set_cons_zero, List.set_cons_succ]
  refine g_take (i := 8) (d := (some 102)) (v := ?_) rfl rfl (by kernel_rfl) (fun _ _ _ h => h) (by rfl) (fun w' hb' => ?_) ?_
  rotate_left
  · (try go_simp); (try with_reducible rfl)
  try simp only [Act.put, List.setIfInBounds_toArray, List.set_cons_zero, List.set_cons_succ]
  refine g_take (i := 9) (d := (some 103)) (v := ?_) rfl rfl (by kernel_rfl) (fun _ _ _ h => h) (by rfl) (fun w' hb' => ?_) ?_
  rotate_left
  · (try go_simp); (try with_reducible rfl)
  try simp only [Act.put, List.setIfInBounds_toArray, List.set_cons_zero, List.set_cons_succ]
  refine g_done (by kernel_rfl) ?_
  obtain ⟨qac0, qac1, qac2⟩ := cells3 qa
  have qal := lt_of_block qa
  obtain ⟨qbc0, qbc1, qbc2⟩ := cells3 qb
  have qbl := lt_of_block qb
  obtain ⟨qjc0, qjc1, qjc2⟩ := cells3 qj
  have qjl := lt_of_block qj
  obtain ⟨qlc0, qlc1, qlc2⟩ := cells3 ql
  have qll := lt_of_block ql
  obtain ⟨qnc0, qnc1, qnc2⟩ := cells3 qn
  have qnl := lt_of_block qn
  obtain ⟨qsc0, qsc1, qsc2⟩ := cells3 qs
  have qsl := lt_of_block qs
  have hcat : ∀ (w : World), (Op.stringOp .add (str la) (str lb)).run Tryd.prog w = .ok (.string (str (la ++ lb))) w := fun w => by rw [run_string_add_sum w _ _ (by omega), str_cat]
  have hcat2 : ∀ (w : World), (binOp .add 9 (.string (str la)) (.string (str lb))).run Tryd.prog w = .ok (.string (str (la ++ lb))) w := fun w => by rw [binOp_string_add, run_string_add_sum w _ _ (by omega), str_cat]
  have qax := (heap_alloc_old w7 (.cells #[.int .i64 3, .int .i64 0, .string (str (la ++ lb))] 30) (lt_of_block qa)).trans qa
  obtain ⟨qax0, qax1, qax2⟩ := cells3 qax
  have qbx := (heap_alloc_old w7 (.cells #[.int .i64 3, .int .i64 0, .string (str (la ++ lb))] 30) (lt_of_block qb)).trans qb
  obtain ⟨qbx0, qbx1, qbx2⟩ := cells3 qbx
  have qjx := (heap_alloc_old w7 (.cells #[.int .i64 3, .int .i64 0, .string (str (la ++ lb))] 30) (lt_of_block qj)).trans qj
  obtain ⟨qjx0, qjx1, qjx2⟩ := cells3 qjx
  have qlx := (heap_alloc_old w7 (.cells #[.int .i64 3, .int .i64 0, .string (str (la ++ lb))] 30) (lt_of_block ql)).trans ql
  obtain ⟨qlx0, qlx1, qlx2⟩ := cells3 qlx
  have qnx := (heap_alloc_old w7 (.cells #[.int .i64 3, .int .i64 0, .string (str (la ++ lb))] 30) (lt_of_block qn)).trans qn
  obtain ⟨qnx0, qnx1, qnx2⟩ := cells3 qnx
  have qsx := (heap_alloc_old w7 (.cells #[.int .i64 3, .int .i64 0, .string (str (la ++ lb))] 30) (lt_of_block qs)).trans qs
  obtain ⟨qsx0, qsx1, qsx2⟩ := cells3 qsx
  have qwx := heap_alloc_new w7 (.cells #[.int .i64 3, .int .i64 0, .string (str (la ++ lb))] 30)
  have belx := bel.alloc bel.size (.cells #[.int .i64 3, .int .i64 0, .string (str (la ++ lb))] 30)
  have lwx := Nat.le_refl w7.heap.size
  go_wp2_with fail
  refine (RMB _).mono ?_
  rintro e w8 ⟨rfl, g⟩
  have qal2 : w.heap.size < w7.heap.size := lt_of_block qa
  clear qac0 qac1 qac2 qax0 qax1 qax2 qal
  replace qa := (g.block _ (lt_of_block qax)).trans qax
  clear qax
  have qbl2 : w.heap.size + 1 < w7.heap.size := lt_of_block qb
  clear qbc0 qbc1 qbc2 qbx0 qbx1 qbx2 qbl
  replace qb := (g.block _ (lt_of_block qbx)).trans qbx
  clear qbx
  have qjl2 : w1.heap.size < w7.heap.size := lt_of_block qj
  clear qjc0 qjc1 qjc2 qjx0 qjx1 qjx2 qjl
  replace qj := (g.block _ (lt_of_block qjx)).trans qjx
  clear qjx
  have qll2 : w2.heap.size < w7.heap.size := lt_of_block ql
  clear qlc0 qlc1 qlc2 qlx0 qlx1 qlx2 qll
  replace ql := (g.block _ (lt_of_block qlx)).trans qlx
  clear qlx
  have qnl2 : w3.heap.size < w7.heap.size := lt_of_block qn
  clear qnc0 qnc1 qnc2 qnx0 qnx1 qnx2 qnl
  replace qn := (g.block _ (lt_of_block qnx)).trans qnx
  clear qnx
  have qsl2 : w4.heap.size < w7.heap.size := lt_of_block qs
  clear qsc0 qsc1 qsc2 qsx0 qsx1 qsx2 qsl
  replace qs := (g.block _ (lt_of_block qsx)).trans qsx
  clear qsx
  have qw := (g.block _ (lt_of_block qwx)).trans qwx
  clear qwx
  replace bel := chain belx g
  clear belx g
  obtain ⟨qac0, qac1, qac2⟩ := cells3 qa
  have qal := lt_of_block qa
  obtain ⟨qbc0, qbc1, qbc2⟩ := cells3 qb
  have qbl := lt_of_block qb
  obtain ⟨qjc0, qjc1, qjc2⟩ := cells3 qj
  have qjl := lt_of_block qj
  obtain ⟨qlc0, qlc1, qlc2⟩ := cells3 ql
  have qll := lt_of_block ql
  obtain ⟨qnc0, qnc1, qnc2⟩ := cells3 qn
  have qnl := lt_of_block qn
  obtain ⟨qsc0, qsc1, qsc2⟩ := cells3 qs
  have qsl := lt_of_block qs
  obtain ⟨qwc0, qwc1, qwc2⟩ := cells3 qw
  have qwl := lt_of_block qw
  have fz := frozen3 qw
  have qay := put3_old (B := w7.heap.size) (u0 := .int .i64 0) (u1 := .int .i64 0) (u2 := .string (ByteArray.mk #[])) qa (by omega)
  obtain ⟨qay0, qay1, qay2⟩ := cells3 qay
  have qby := put3_old (B := w7.heap.size) (u0 := .int .i64 0) (u1 := .int .i64 0) (u2 := .string (ByteArray.mk #[])) qb (by omega)
  obtain ⟨qby0, qby1, qby2⟩ := cells3 qby
  have qjy := put3_old (B := w7.heap.size) (u0 := .int .i64 0) (u1 := .int .i64 0) (u2 := .string (ByteArray.mk #[])) qj (by omega)
  obtain ⟨qjy0, qjy1, qjy2⟩ := cells3 qjy
  have qly := put3_old (B := w7.heap.size) (u0 := .int .i64 0) (u1 := .int .i64 0) (u2 := .string (ByteArray.mk #[])) ql (by omega)
  obtain ⟨qly0, qly1, qly2⟩ := cells3 qly
  have qny := put3_old (B := w7.heap.size) (u0 := .int .i64 0) (u1 := .int .i64 0) (u2 := .string (ByteArray.mk #[])) qn (by omega)
  obtain ⟨qny0, qny1, qny2⟩ := cells3 qny
  have qsy := put3_old (B := w7.heap.size) (u0 := .int .i64 0) (u1 := .int .i64 0) (u2 := .string (ByteArray.mk #[])) qs (by omega)
  obtain ⟨qsy0, qsy1, qsy2⟩ := cells3 qsy
  have qwy := put3 (.int .i64 0) (.int .i64 0) (.string (ByteArray.mk #[])) qw
  obtain ⟨qwy0, qwy1, qwy2⟩ := cells3 qwy
  have bely := put3_below (B := w7.heap.size) (u0 := .int .i64 0) (u1 := .int .i64 0) (u2 := .string (ByteArray.mk #[])) bel (by have := bel.size; have := qal2; omega)
  go_wp2_with fail
  refine (IS _).mono ?_
  rintro e w9 ⟨rfl, g⟩
  replace bel := chain bely g
  clear bely g
  clear qac0 qac1 qac2 qal qay qay0 qay1 qay2 qa
  clear qbc0 qbc1 qbc2 qbl qby qby0 qby1 qby2 qb
  clear qjc0 qjc1 qjc2 qjl qjy qjy0 qjy1 qjy2 qj
  clear qlc0 qlc1 qlc2 qll qly qly0 qly1 qly2 ql
  clear qnc0 qnc1 qnc2 qnl qny qny0 qny1 qny2 qn
  clear qsc0 qsc1 qsc2 qsl qsy qsy0 qsy1 qsy2 qs
  clear qwc0 qwc1 qwc2 qwl qwy qwy0 qwy1 qwy2 qw
  go_wp2_with fail
  refine (AW _).mono ?_
  rintro e w10 ⟨rfl, g⟩
  replace bel := chain bel g
  go_wp2_with fail
  go_ret
  exact ⟨rfl, bel⟩
set_option maxRecDepth 100000 in
set_option maxHeartbeats 8000000 in
theorem texts_3l (ia : Int) (sa : List UInt8) (ib : Int) (sb : List UInt8) (la lb : List UInt8) (ss : List UInt8) (w : World)
    (FA : ∀ w, Calls Tryd.prog 36 #[.agg #[.int .i64 3, .int .i64 ia, .string (str sa)]] w fun e w' => e = .returned (.agg #[.int .i64 3, .int .i64 ia, .string (str la)]) ∧ Below w.heap.size w w')
    (FB : ∀ w, Calls Tryd.prog 36 #[.agg #[.int .i64 3, .int .i64 ib, .string (str sb)]] w fun e w' => e = .returned (.agg #[.int .i64 3, .int .i64 ib, .string (str lb)]) ∧ Below w.heap.size w w')
    (CJ : ∀ w, Calls Tryd.prog 37 #[.agg #[.int .i64 3, .int .i64 ia, .string (str la)], .agg #[.int .i64 3, .int .i64 ib, .string (str lb)]] w fun e w' => e = .returned (.tuple #[.agg #[.int .i64 0, .int .i64 0, .string (str [])], .int .i64 5]) ∧ Below w.heap.size w w')
    (CL : ∀ w, Calls Tryd.prog 38 #[.agg #[.int .i64 3, .int .i64 ia, .string (str la)]] w fun e w' => e = .returned (.tuple #[.agg #[.int .i64 2, .int .i64 (la.length : Int), .string (str [])], .int .i64 0]) ∧ Below w.heap.size w w')
    (CN : ∀ w, Calls Tryd.prog 39 #[.agg #[.int .i64 3, .int .i64 ia, .string (str la)]] w fun e w' => e = .returned (.tuple #[.agg #[.int .i64 0, .int .i64 0, .string (str [])], .int .i64 10]) ∧ Below w.heap.size w w')
    (CS : ∀ W, Below w.heap.size w W → Calls Tryd.prog 40 #[.agg #[.int .i64 3, .int .i64 ia, .string (str la)]] W fun e w' => e = .returned (.tuple #[.agg #[.int .i64 3, .int .i64 0, .string (str ss)], .int .i64 0]) ∧ Below W.heap.size W w')
    (RMA : ∀ w, Calls Tryd.prog 41 #[.agg #[.int .i64 3, .int .i64 ia, .string (str la)]] w fun e w' => e = .returned (.bool true) ∧ Below w.heap.size w w')
    (CRS : ∀ w, Calls Tryd.prog 43 #[.agg #[.int .i64 3, .int .i64 ia, .string (str la)]] w fun e w' => e = .returned (.string (str ss)) ∧ Below w.heap.size w w')
    (RMB : ∀ w, Calls Tryd.prog 41 #[.agg #[.int .i64 3, .int .i64 ib, .string (str lb)]] w fun e w' => e = .returned (.bool true) ∧ Below w.heap.size w w')
    (hla : la.length ≤ 200) (hlb : lb.length ≤ 200) (hlong : 64 < la.length + lb.length) :
    Calls Tryd.prog 9 #[.agg #[.int .i64 3, .int .i64 ia, .string (str sa)], .agg #[.int .i64 3, .int .i64 ib, .string (str sb)]] w fun e w' => e = .returned (.bool true) ∧ Below w.heap.size w w' := by
  have AW := awake_any
  have IS := is_same 0 0 [] 5
  obtain ⟨qa, qb, -, -⟩ := two_allocs w (.cells #[.int .i64 3, .int .i64 ia, .string (str sa)] 30) (.cells #[.int .i64 3, .int .i64 ib, .string (str sb)] 30)
  have bel : Below w.heap.size w ((w.alloc (.cells #[.int .i64 3, .int .i64 ia, .string (str sa)] 30)).alloc (.cells #[.int .i64 3, .int .i64 ib, .string (str sb)] 30)) := ((Below.refl _ w).alloc (Nat.le_refl _) _).alloc (by simp) _
  go_enter Tryd.func9, Tryd.ntmps9
  go_wp2_with fail
  obtain ⟨W0, hW0⟩ : ∃ W0, W0 = (w.alloc (.cells #[.int .i64 3, .int .i64 ia, .string (str sa)] 30)).alloc (.cells #[.int .i64 3, .int .i64 ib, .string (str sb)] 30) := ⟨_, rfl⟩
  rw [← hW0] at qa qb bel ⊢
  clear hW0
  have bel := below_drewN (k := 1) bel
  refine t_start 4 (by kernel_rfl) ?_
  refine t_take (i := 0) (d := (some 16)) (v := ?_) rfl rfl (by kernel_rfl) (fun _ _ _ h => h) (by rfl) (fun w' hb' => ?_) ?_
  rotate_left
  · have zz := (hb'.block _ (lt_of_block qa)).trans qa; obtain ⟨c0, c1, c2⟩ := cells3 zz; (try go_simp); (try with_reducible rfl)
  try simp only [Act.put, List.setIfInBounds_toArray, List.set_cons_zero, List.set_cons_succ]
  refine t_take (i := 2) (d := (some 18)) (v := ?_) rfl rfl (by kernel_rfl) (fun _ _ _ h => h) (by rfl) (fun w' hb' => ?_) ?_
  rotate_left
  · have zz := (hb'.block _ (lt_of_block qb)).trans qb; obtain ⟨c0, c1, c2⟩ := cells3 zz; (try go_simp); (try with_reducible rfl)
  try simp only [Act.put, List.setIfInBounds_toArray, List.set_cons_zero, List.set_cons_succ]
  refine t_run (i := 1) rfl (by kernel_rfl) (by kernel_rfl) (by rfl) (fun K hK => ?_)
  go_simp
  refine (FA _).mono ?_
  rintro e y1 ⟨rfl, gg⟩
  have qa := (gg.block _ (lt_of_block qa)).trans qa
  have qb := (gg.block _ (lt_of_block qb)).trans qb
  have bel := chain bel gg
  refine hK _ _ ⟨gg, ?_⟩
  clear hK K gg
  try simp only [Act.put, List.setIfInBounds_toArray, List.set_cons_zero, List.set_cons_succ]
  refine t_run (i := 3) rfl (by kernel_rfl) (by kernel_rfl) (by rfl) (fun K hK => ?_)
  go_simp
  refine (FB _).mono ?_
  rintro e y2 ⟨rfl, gg⟩
  have qa := (gg.block _ (lt_of_block qa)).trans qa
  have qb := (gg.block _ (lt_of_block qb)).trans qb
  have bel := chain bel gg
  refine hK _ _ ⟨gg, ?_⟩
  clear hK K gg
  try simp only [Act.put, List.setIfInBounds_toArray, List.set_cons_zero, List.set_cons_succ]
  refine t_into ?_
  refine t_tail (i := 4) rfl (by kernel_rfl) (by kernel_rfl) (by rfl) (fun K hK => ?_)
  obtain ⟨c0, c1, c2⟩ := cells3 qa
  have cf := frozen3 qa
  have hl := lt_of_block qa
  go_simp
  refine hK _ _ ?_
  clear hK K c0 c1 c2 cf hl
  have qa := put3 (.int .i64 3) (.int .i64 ia) (.string (str la)) qa
  have qb := put3_old (B := w.heap.size) (u0 := .int .i64 3) (u1 := .int .i64 ia) (u2 := .string (str la)) qb (by omega)
  have bel := put3_below (B := w.heap.size) (u0 := .int .i64 3) (u1 := .int .i64 ia) (u2 := .string (str la)) bel (by omega)
  obtain ⟨y3, hy3⟩ : ∃ W, W = (((y2.setCell ⟨w.heap.size, 0, none⟩ (.int .i64 3)).setCell ⟨w.heap.size, 1, none⟩ (.int .i64 ia)).setCell ⟨w.heap.size, 2, none⟩ (.string (str la))) := ⟨_, rfl⟩
  rw [← hy3] at qa qb bel
  change wpO _ _ _ _ _ _ _ (((y2.setCell ⟨w.heap.size, 0, none⟩ (.int .i64 3)).setCell ⟨w.heap.size, 1, none⟩ (.int .i64 ia)).setCell ⟨w.heap.size, 2, none⟩ (.string (str la)))
  rw [← hy3]
  clear hy3
  try simp only [Act.put, List.setIfInBounds_toArray, List.set_cons_zero, List.set_cons_succ]
  refine t_tail (i := 5) rfl (by kernel_rfl) (by kernel_rfl) (by rfl) (fun K hK => ?_)
  obtain ⟨c0, c1, c2⟩ := cells3 qb
  have cf := frozen3 qb
  have hl := lt_of_block qb
  go_simp
  refine hK _ _ ?_
  clear hK K c0 c1 c2 cf hl
  have qa := put3_old (B := w.heap.size + 1) (u0 := .int .i64 3) (u1 := .int .i64 ib) (u2 := .string (str lb)) qa (by omega)
  have qb := put3 (.int .i64 3) (.int .i64 ib) (.string (str lb)) qb
  have bel := put3_below (B := w.heap.size + 1) (u0 := .int .i64 3) (u1 := .int .i64 ib) (u2 := .string (str lb)) bel (by omega)
  obtain ⟨y4, hy4⟩ : ∃ W, W = (((y3.setCell ⟨w.heap.size + 1, 0, none⟩ (.int .i64 3)).setCell ⟨w.heap.size + 1, 1, none⟩ (.int .i64 ib)).setCell ⟨w.heap.size + 1, 2, none⟩ (.string (str lb))) := ⟨_, rfl⟩
  rw [← hy4] at qa qb bel
  change wpO _ _ _ _ _ _ _ (((y3.setCell ⟨w.heap.size + 1, 0, none⟩ (.int .i64 3)).setCell ⟨w.heap.size + 1, 1, none⟩ (.int .i64 ib)).setCell ⟨w.heap.size + 1, 2, none⟩ (.string (str lb)))
  rw [← hy4]
  clear hy4
  try simp only [Act.put, List.setIfInBounds_toArray, List.set_cons_zero, List.set_cons_succ]
  refine t_over (by kernel_rfl) ?_
  obtain ⟨qac0, qac1, qac2⟩ := cells3 qa
  have qal := lt_of_block qa
  obtain ⟨qbc0, qbc1, qbc2⟩ := cells3 qb
  have qbl := lt_of_block qb
  go_wp2_with fail
  refine (CJ _).mono ?_
  rintro e w1 ⟨rfl, g⟩
  clear qac0 qac1 qac2 qal
  replace qa := (g.block _ (lt_of_block qa)).trans qa
  clear qbc0 qbc1 qbc2 qbl
  replace qb := (g.block _ (lt_of_block qb)).trans qb
  replace bel := chain bel g
  clear g
  obtain ⟨qac0, qac1, qac2⟩ := cells3 qa
  have qal := lt_of_block qa
  obtain ⟨qbc0, qbc1, qbc2⟩ := cells3 qb
  have qbl := lt_of_block qb
  clear qac0 qac1 qac2 qal
  replace qa := (heap_alloc_old w1 (.cells #[.int .i64 0, .int .i64 0, .string (str [])] 30) (lt_of_block qa)).trans qa
  clear qbc0 qbc1 qbc2 qbl
  replace qb := (heap_alloc_old w1 (.cells #[.int .i64 0, .int .i64 0, .string (str [])] 30) (lt_of_block qb)).trans qb
  have qj := heap_alloc_new w1 (.cells #[.int .i64 0, .int .i64 0, .string (str [])] 30)
  replace bel := bel.alloc bel.size (.cells #[.int .i64 0, .int .i64 0, .string (str [])] 30)
  obtain ⟨qac0, qac1, qac2⟩ := cells3 qa
  have qal := lt_of_block qa
  obtain ⟨qbc0, qbc1, qbc2⟩ := cells3 qb
  have qbl := lt_of_block qb
  obtain ⟨qjc0, qjc1, qjc2⟩ := cells3 qj
  have qjl := lt_of_block qj
  go_wp2_with fail
  refine (CL _).mono ?_
  rintro e w2 ⟨rfl, g⟩
  clear qac0 qac1 qac2 qal
  replace qa := (g.block _ (lt_of_block qa)).trans qa
  clear qbc0 qbc1 qbc2 qbl
  replace qb := (g.block _ (lt_of_block qb)).trans qb
  clear qjc0 qjc1 qjc2 qjl
  replace qj := (g.block _ (lt_of_block qj)).trans qj
  replace bel := chain bel g
  clear g
  obtain ⟨qac0, qac1, qac2⟩ := cells3 qa
  have qal := lt_of_block qa
  obtain ⟨qbc0, qbc1, qbc2⟩ := cells3 qb
  have qbl := lt_of_block qb
  obtain ⟨qjc0, qjc1, qjc2⟩ := cells3 qj
  have qjl := lt_of_block qj
  clear qac0 qac1 qac2 qal
  replace qa := (heap_alloc_old w2 (.cells #[.int .i64 2, .int .i64 (la.length : Int), .string (str [])] 30) (lt_of_block qa)).trans qa
  clear qbc0 qbc1 qbc2 qbl
  replace qb := (heap_alloc_old w2 (.cells #[.int .i64 2, .int .i64 (la.length : Int), .string (str [])] 30) (lt_of_block qb)).trans qb
  clear qjc0 qjc1 qjc2 qjl
  replace qj := (heap_alloc_old w2 (.cells #[.int .i64 2, .int .i64 (la.length : Int), .string (str [])] 30) (lt_of_block qj)).trans qj
  have ql := heap_alloc_new w2 (.cells #[.int .i64 2, .int .i64 (la.length : Int), .string (str [])] 30)
  replace bel := bel.alloc bel.size (.cells #[.int .i64 2, .int .i64 (la.length : Int), .string (str [])] 30)
  obtain ⟨qac0, qac1, qac2⟩ := cells3 qa
  have qal := lt_of_block qa
  obtain ⟨qbc0, qbc1, qbc2⟩ := cells3 qb
  have qbl := lt_of_block qb
  obtain ⟨qjc0, qjc1, qjc2⟩ := cells3 qj
  have qjl := lt_of_block qj
  obtain ⟨qlc0, qlc1, qlc2⟩ := cells3 ql
  have qll := lt_of_block ql
  go_wp2_with fail
  refine (CN _).mono ?_
  rintro e w3 ⟨rfl, g⟩
  clear qac0 qac1 qac2 qal
  replace qa := (g.block _ (lt_of_block qa)).trans qa
  clear qbc0 qbc1 qbc2 qbl
  replace qb := (g.block _ (lt_of_block qb)).trans qb
  clear qjc0 qjc1 qjc2 qjl
  replace qj := (g.block _ (lt_of_block qj)).trans qj
  clear qlc0 qlc1 qlc2 qll
  replace ql := (g.block _ (lt_of_block ql)).trans ql
  replace bel := chain bel g
  clear g
  obtain ⟨qac0, qac1, qac2⟩ := cells3 qa
  have qal := lt_of_block qa
  obtain ⟨qbc0, qbc1, qbc2⟩ := cells3 qb
  have qbl := lt_of_block qb
  obtain ⟨qjc0, qjc1, qjc2⟩ := cells3 qj
  have qjl := lt_of_block qj
  obtain ⟨qlc0, qlc1, qlc2⟩ := cells3 ql
  have qll := lt_of_block ql
  clear qac0 qac1 qac2 qal
  replace qa := (heap_alloc_old w3 (.cells #[.int .i64 0, .int .i64 0, .string (str [])] 30) (lt_of_block qa)).trans qa
  clear qbc0 qbc1 qbc2 qbl
  replace qb := (heap_alloc_old w3 (.cells #[.int .i64 0, .int .i64 0, .string (str [])] 30) (lt_of_block qb)).trans qb
  clear qjc0 qjc1 qjc2 qjl
  replace qj := (heap_alloc_old w3 (.cells #[.int .i64 0, .int .i64 0, .string (str [])] 30) (lt_of_block qj)).trans qj
  clear qlc0 qlc1 qlc2 qll
  replace ql := (heap_alloc_old w3 (.cells #[.int .i64 0, .int .i64 0, .string (str [])] 30) (lt_of_block ql)).trans ql
  have qn := heap_alloc_new w3 (.cells #[.int .i64 0, .int .i64 0, .string (str [])] 30)
  replace bel := bel.alloc bel.size (.cells #[.int .i64 0, .int .i64 0, .string (str [])] 30)
  obtain ⟨qac0, qac1, qac2⟩ := cells3 qa
  have qal := lt_of_block qa
  obtain ⟨qbc0, qbc1, qbc2⟩ := cells3 qb
  have qbl := lt_of_block qb
  obtain ⟨qjc0, qjc1, qjc2⟩ := cells3 qj
  have qjl := lt_of_block qj
  obtain ⟨qlc0, qlc1, qlc2⟩ := cells3 ql
  have qll := lt_of_block ql
  obtain ⟨qnc0, qnc1, qnc2⟩ := cells3 qn
  have qnl := lt_of_block qn
  go_wp2_with fail
  refine (CS _ bel).mono ?_
  rintro e w4 ⟨rfl, g⟩
  clear qac0 qac1 qac2 qal
  replace qa := (g.block _ (lt_of_block qa)).trans qa
  clear qbc0 qbc1 qbc2 qbl
  replace qb := (g.block _ (lt_of_block qb)).trans qb
  clear qjc0 qjc1 qjc2 qjl
  replace qj := (g.block _ (lt_of_block qj)).trans qj
  clear qlc0 qlc1 qlc2 qll
  replace ql := (g.block _ (lt_of_block ql)).trans ql
  clear qnc0 qnc1 qnc2 qnl
  replace qn := (g.block _ (lt_of_block qn)).trans qn
  replace bel := chain bel g
  clear g
  obtain ⟨qac0, qac1, qac2⟩ := cells3 qa
  have qal := lt_of_block qa
  obtain ⟨qbc0, qbc1, qbc2⟩ := cells3 qb
  have qbl := lt_of_block qb
  obtain ⟨qjc0, qjc1, qjc2⟩ := cells3 qj
  have qjl := lt_of_block qj
  obtain ⟨qlc0, qlc1, qlc2⟩ := cells3 ql
  have qll := lt_of_block ql
  obtain ⟨qnc0, qnc1, qnc2⟩ := cells3 qn
  have qnl := lt_of_block qn
  clear qac0 qac1 qac2 qal
  replace qa := (heap_alloc_old w4 (.cells #[.int .i64 3, .int .i64 0, .string (str ss)] 30) (lt_of_block qa)).trans qa
  clear qbc0 qbc1 qbc2 qbl
  replace qb := (heap_alloc_old w4 (.cells #[.int .i64 3, .int .i64 0, .string (str ss)] 30) (lt_of_block qb)).trans qb
  clear qjc0 qjc1 qjc2 qjl
  replace qj := (heap_alloc_old w4 (.cells #[.int .i64 3, .int .i64 0, .string (str ss)] 30) (lt_of_block qj)).trans qj
  clear qlc0 qlc1 qlc2 qll
  replace ql := (heap_alloc_old w4 (.cells #[.int .i64 3, .int .i64 0, .string (str ss)] 30) (lt_of_block ql)).trans ql
  clear qnc0 qnc1 qnc2 qnl
  replace qn := (heap_alloc_old w4 (.cells #[.int .i64 3, .int .i64 0, .string (str ss)] 30) (lt_of_block qn)).trans qn
  have qs := heap_alloc_new w4 (.cells #[.int .i64 3, .int .i64 0, .string (str ss)] 30)
  replace bel := bel.alloc bel.size (.cells #[.int .i64 3, .int .i64 0, .string (str ss)] 30)
  obtain ⟨qac0, qac1, qac2⟩ := cells3 qa
  have qal := lt_of_block qa
  obtain ⟨qbc0, qbc1, qbc2⟩ := cells3 qb
  have qbl := lt_of_block qb
  obtain ⟨qjc0, qjc1, qjc2⟩ := cells3 qj
  have qjl := lt_of_block qj
  obtain ⟨qlc0, qlc1, qlc2⟩ := cells3 ql
  have qll := lt_of_block ql
  obtain ⟨qnc0, qnc1, qnc2⟩ := cells3 qn
  have qnl := lt_of_block qn
  obtain ⟨qsc0, qsc1, qsc2⟩ := cells3 qs
  have qsl := lt_of_block qs
  go_wp2_with fail
  refine (RMA _).mono ?_
  rintro e w5 ⟨rfl, g⟩
  clear qac0 qac1 qac2 qal
  replace qa := (g.block _ (lt_of_block qa)).trans qa
  clear qbc0 qbc1 qbc2 qbl
  replace qb := (g.block _ (lt_of_block qb)).trans qb
  clear qjc0 qjc1 qjc2 qjl
  replace qj := (g.block _ (lt_of_block qj)).trans qj
  clear qlc0 qlc1 qlc2 qll
  replace ql := (g.block _ (lt_of_block ql)).trans ql
  clear qnc0 qnc1 qnc2 qnl
  replace qn := (g.block _ (lt_of_block qn)).trans qn
  clear qsc0 qsc1 qsc2 qsl
  replace qs := (g.block _ (lt_of_block qs)).trans qs
  replace bel := chain bel g
  clear g
  obtain ⟨qac0, qac1, qac2⟩ := cells3 qa
  have qal := lt_of_block qa
  obtain ⟨qbc0, qbc1, qbc2⟩ := cells3 qb
  have qbl := lt_of_block qb
  obtain ⟨qjc0, qjc1, qjc2⟩ := cells3 qj
  have qjl := lt_of_block qj
  obtain ⟨qlc0, qlc1, qlc2⟩ := cells3 ql
  have qll := lt_of_block ql
  obtain ⟨qnc0, qnc1, qnc2⟩ := cells3 qn
  have qnl := lt_of_block qn
  obtain ⟨qsc0, qsc1, qsc2⟩ := cells3 qs
  have qsl := lt_of_block qs
  go_wp2_with fail
  clear qal qac0 qac1 qac2
  clear qbl qbc0 qbc1 qbc2
  clear qjl qjc0 qjc1 qjc2
  clear qll qlc0 qlc1 qlc2
  clear qnl qnc0 qnc1 qnc2
  clear qsl qsc0 qsc1 qsc2
  have bel := below_drewN (k := 1) bel
  refine g_start (by kernel_rfl) ?_
  refine g_take (i := 0) (d := (some 82)) (v := ?_) rfl rfl (by kernel_rfl) (fun _ _ _ h => h) (by rfl) (fun w' hb' => ?_) ?_
  rotate_left
  · (try go_simp); (try with_reducible rfl)
  try simp only [Act.put, List.setIfInBounds_toArray, List.set_cons_zero, List.set_cons_succ]
  refine g_take (i := 1) (d := (some 83)) (v := ?_) rfl rfl (by kernel_rfl) (fun _ _ _ h => h) (by rfl) (fun w' hb' => ?_) ?_
  rotate_left
  · (try go_simp); (try with_reducible rfl)
  try simp only [Act.put, List.setIfInBounds_toArray, List.set_cons_zero, List.set_cons_succ]
  refine g_take (i := 2) (d := (some 84)) (v := ?_) rfl rfl (by kernel_rfl) (fun _ _ _ h => h) (by rfl) (fun w' hb' => ?_) ?_
  rotate_left
  · (try go_simp); (try with_reducible rfl)
  try simp only [Act.put, List.setIfInBounds_toArray, List.set_cons_zero, List.set_cons_succ]
  refine g_take (i := 3) (d := (some 85)) (v := ?_) rfl rfl (by kernel_rfl) (fun _ _ _ h => h) (by rfl) (fun w' hb' => ?_) ?_
  rotate_left
  · have zz := (hb'.block _ (lt_of_block qs)).trans qs; obtain ⟨c0, c1, c2⟩ := cells3 zz; (try go_simp); (try with_reducible rfl)
  try simp only [Act.put, List.setIfInBounds_toArray, List.set_cons_zero, List.set_cons_succ]
  refine g_take (i := 4) (d := (some 86)) (v := ?_) rfl rfl (by kernel_rfl) (fun _ _ _ h => h) (by rfl) (fun w' hb' => ?_) ?_
  rotate_left
  · have zz := (hb'.block _ (lt_of_block qa)).trans qa; obtain ⟨c0, c1, c2⟩ := cells3 zz; (try go_simp); (try with_reducible rfl)
  try simp only [Act.put, List.setIfInBounds_toArray, List.set_cons_zero, List.set_cons_succ]
  refine g_run (i := 5) rfl (by kernel_rfl) (by rfl) (fun K hK => ?_)
  go_simp
  refine (CRS _).mono ?_
  rintro e w6 ⟨rfl, gg⟩
  have qa := (gg.block _ (lt_of_block qa)).trans qa
  have qb := (gg.block _ (lt_of_block qb)).trans qb
  have qj := (gg.block _ (lt_of_block qj)).trans qj
  have ql := (gg.block _ (lt_of_block ql)).trans ql
  have qn := (gg.block _ (lt_of_block qn)).trans qn
  have qs := (gg.block _ (lt_of_block qs)).trans qs
  have bel := chain bel gg
  refine hK _ _ ⟨gg, ?_⟩
  clear hK K gg
  try simp only [Act.put, List.setIfInBounds_toArray, List.set_cons_zero, List.set_cons_succ]
  refine g_run (i := 6) rfl (by kernel_rfl) (by rfl) (fun K hK => ?_)
  go_simp
  refine hK _ _ ⟨Below.refl _ _, ?_⟩
  clear hK K
  try simp only [Act.put, List.setIfInBounds_toArray, List.set_cons_zero, List.set_cons_succ]
  refine g_take (i := 7) (d := (some 89)) (v := ?_) rfl rfl (by kernel_rfl) (fun _ _ _ h => h) (by rfl) (fun w' hb' => ?_) ?_
  rotate_left
  · (refine val_ne_op _ _ (.tmp 85) (.tmp 88) 30 3 0 ss ?_ ?_ ?_ w' <;> rfl); (try go_simp); (try with_reducible rfl)
  try simp only [Act.put, List.setIfInBounds_toArray, List.set_cons_zero, List.set_cons_succ]
  refine g_take (i := 8) (d := (some 90)) (v := ?_) rfl rfl (by kernel_rfl) (fun _ _ _ h => h) (by rfl) (fun w' hb' => ?_) ?_
  rotate_left
  · (try go_simp); (try with_reducible rfl)
  try simp only [Act.put, List.setIfInBounds_toArray, List.set_cons_zero, List.set_cons_succ]
  refine g_done (by kernel_rfl) ?_
  obtain ⟨qac0, qac1, qac2⟩ := cells3 qa
  have qal := lt_of_block qa
  obtain ⟨qbc0, qbc1, qbc2⟩ := cells3 qb
  have qbl := lt_of_block qb
  obtain ⟨qjc0, qjc1, qjc2⟩ := cells3 qj
  have qjl := lt_of_block qj
  obtain ⟨qlc0, qlc1, qlc2⟩ := cells3 ql
  have qll := lt_of_block ql
  obtain ⟨qnc0, qnc1, qnc2⟩ := cells3 qn
  have qnl := lt_of_block qn
  obtain ⟨qsc0, qsc1, qsc2⟩ := cells3 qs
  have qsl := lt_of_block qs
  have VN : ∀ w, (binOp .neq 30 (.agg #[.int .i64 0, .int .i64 0, .string (str [])]) (.agg #[.int .i64 0, .int .i64 0, .string (ByteArray.mk #[])])).run Tryd.prog w = .ok (.bool false) w := fun w => val_ne 0 0 [] w
  have hza : (str la).size ≤ 200 := by rw [str_size]; exact hla
  have hzb : (str lb).size ≤ 200 := by rw [str_size]; exact hlb
  have sza : ((str la).size : Int) = (la.length : Int) := by rw [str_size]
  have szb : ((str lb).size : Int) = (lb.length : Int) := by rw [str_size]
  have hsum : 64 < (la.length : Int) + (lb.length : Int) := by omega
  go_wp2_with fail
  clear qal qac0 qac1 qac2
  clear qbl qbc0 qbc1 qbc2
  clear qjl qjc0 qjc1 qjc2
  clear qll qlc0 qlc1 qlc2
  clear qnl qnc0 qnc1 qnc2
  clear qsl qsc0 qsc1 qsc2
  have bel := below_drewN (k := 1) bel
  refine g_start (by kernel_rfl) ?_
  refine g_take (i := 0) (d := (some 94)) (v := ?_) rfl rfl (by kernel_rfl) (fun _ _ _ h => h) (by rfl) (fun w' hb' => ?_) ?_
  rotate_left
  · have zz := (hb'.block _ (lt_of_block ql)).trans ql; obtain ⟨c0, c1, c2⟩ := cells3 zz; (try go_simp); (try with_reducible rfl)
  try simp only [Act.put, List.setIfInBounds_toArray, List.set_cons_zero, List.set_cons_succ]
  refine g_take (i := 1) (d := (some 95)) (v := ?_) rfl rfl (by kernel_rfl) (fun _ _ _ h => h) (by rfl) (fun w' hb' => ?_) ?_
  rotate_left
  · have zz := (hb'.block _ (lt_of_block qa)).trans qa; obtain ⟨c0, c1, c2⟩ := cells3 zz; (try go_simp); (try with_reducible rfl)
  try simp only [Act.put, List.setIfInBounds_toArray, List.set_cons_zero, List.set_cons_succ]
  refine g_take (i := 2) (d := (some 96)) (v := ?_) rfl rfl (by kernel_rfl) (fun _ _ _ h => h) (by rfl) (fun w' hb' => ?_) ?_
  rotate_left
  · have zz := (hb'.block _ (lt_of_block qa)).trans qa; obtain ⟨c0, c1, c2⟩ := cells3 zz; (try go_simp); (try with_reducible rfl)
  try simp only [Act.put, List.setIfInBounds_toArray, List.set_cons_zero, List.set_cons_succ]
  refine g_take (i := 3) (d := (some 97)) (v := ?_) rfl rfl (by kernel_rfl) (fun _ _ _ h => h) (by rfl) (fun w' hb' => ?_) ?_
  rotate_left
  · (try go_simp); (try with_reducible rfl)
  try simp only [Act.put, List.setIfInBounds_toArray, List.set_cons_zero, List.set_cons_succ]
  refine g_run (i := 4) rfl (by kernel_rfl) (by rfl) (fun K hK => ?_)
  go_simp
  refine (refInt_any _ _).mono ?_
  rintro e w7 ⟨rfl, gg⟩
  have qa := (gg.block _ (lt_of_block qa)).trans qa
  have qb := (gg.block _ (lt_of_block qb)).trans qb
  have qj := (gg.block _ (lt_of_block qj)).trans qj
  have ql := (gg.block _ (lt_of_block ql)).trans ql
  have qn := (gg.block _ (lt_of_block qn)).trans qn
  have qs := (gg.block _ (lt_of_block qs)).trans qs
  have bel := chain bel gg
  refine hK _ _ ⟨gg, ?_⟩
  clear hK K gg
  try simp only [Act.put, List.setIfInBounds_toArray, List.set_cons_zero, List.set_cons_succ]
  refine g_take (i := 5) (d := (some 99)) (v := ?_) rfl rfl (by kernel_rfl) (fun _ _ _ h => h) (by rfl) (fun w' hb' => ?_) ?_
  rotate_left
  · (refine val_ne_op _ _ (.tmp 94) (.tmp 98) 30 2 (la.length : Int) [] ?_ ?_ ?_ w' <;> rfl); (try go_simp); (try with_reducible rfl)
  try simp only [Act.put, List.setIfInBounds_toArray, List.set_cons_zero, List.set_cons_succ]
  refine g_take (i := 6) (d := (some 100)) (v := ?_) rfl rfl (by kernel_rfl) (fun _ _ _ h => h) (by rfl) (fun w' hb' => ?_) ?_
  rotate_left
  · (try go_simp); (try with_reducible rfl)
  try simp only [Act.put, List.setIfInBounds_toArray, List.set_cons_zero, List.set_cons_succ]
  refine g_take (i := 7) (d := (some 101)) (v := ?_) rfl rfl (by kernel_rfl) (fun _ _ _ h => h) (by rfl) (fun w' hb' => ?_) ?_
  rotate_left
  · (try go_simp); (try with_reducible rfl)
  try simp only [Act.put, List.setIfInBounds_toArray, List.set_cons_zero, List.set_cons_succ]
  refine g_take (i := 8) (d := (some 102)) (v := ?_) rfl rfl (by kernel_rfl) (fun _ _ _ h => h) (by rfl) (fun w' hb' => ?_) ?_
  rotate_left
  · (try go_simp); (try with_reducible rfl)
  try simp only [Act.put, List.setIfInBounds_toArray, List.set_cons_zero, List.set_cons_succ]
  refine g_take (i := 9) (d := (some 103)) (v := ?_) rfl rfl (by kernel_rfl) (fun _ _ _ h => h) (by rfl) (fun w' hb' => ?_) ?_
  rotate_left
  · (try go_simp); (try with_reducible rfl)
  try simp only [Act.put, List.setIfInBounds_toArray, List.set_cons_zero, List.set_cons_succ]
  refine g_done (by kernel_rfl) ?_
  obtain ⟨qac0, qac1, qac2⟩ := cells3 qa
  have qal := lt_of_block qa
  obtain ⟨qbc0, qbc1, qbc2⟩ := cells3 qb
  have qbl := lt_of_block qb
  obtain ⟨qjc0, qjc1, qjc2⟩ := cells3 qj
  have qjl := lt_of_block qj
  obtain ⟨qlc0, qlc1, qlc2⟩ := cells3 ql
  have qll := lt_of_block ql
  obtain ⟨qnc0, qnc1, qnc2⟩ := cells3 qn
  have qnl := lt_of_block qn
  obtain ⟨qsc0, qsc1, qsc2⟩ := cells3 qs
  have qsl := lt_of_block qs
  have hcat : ∀ (w : World), (Op.stringOp .add (str la) (str lb)).run Tryd.prog w = .ok (.string (str (la ++ lb))) w := fun w => by rw [run_string_add_sum w _ _ (by omega), str_cat]
  have hcat2 : ∀ (w : World), (binOp .add 9 (.string (str la)) (.string (str lb))).run Tryd.prog w = .ok (.string (str (la ++ lb))) w := fun w => by rw [binOp_string_add, run_string_add_sum w _ _ (by omega), str_cat]
  have qax := (heap_alloc_old w7 (.cells #[.int .i64 3, .int .i64 0, .string (str (la ++ lb))] 30) (lt_of_block qa)).trans qa
  obtain ⟨qax0, qax1, qax2⟩ := cells3 qax
  have qbx := (heap_alloc_old w7 (.cells #[.int .i64 3, .int .i64 0, .string (str (la ++ lb))] 30) (lt_of_block qb)).trans qb
  obtain ⟨qbx0, qbx1, qbx2⟩ := cells3 qbx
  have qjx := (heap_alloc_old w7 (.cells #[.int .i64 3, .int .i64 0, .string (str (la ++ lb))] 30) (lt_of_block qj)).trans qj
  obtain ⟨qjx0, qjx1, qjx2⟩ := cells3 qjx
  have qlx := (heap_alloc_old w7 (.cells #[.int .i64 3, .int .i64 0, .string (str (la ++ lb))] 30) (lt_of_block ql)).trans ql
  obtain ⟨qlx0, qlx1, qlx2⟩ := cells3 qlx
  have qnx := (heap_alloc_old w7 (.cells #[.int .i64 3, .int .i64 0, .string (str (la ++ lb))] 30) (lt_of_block qn)).trans qn
  obtain ⟨qnx0, qnx1, qnx2⟩ := cells3 qnx
  have qsx := (heap_alloc_old w7 (.cells #[.int .i64 3, .int .i64 0, .string (str (la ++ lb))] 30) (lt_of_block qs)).trans qs
  obtain ⟨qsx0, qsx1, qsx2⟩ := cells3 qsx
  have qwx := heap_alloc_new w7 (.cells #[.int .i64 3, .int .i64 0, .string (str (la ++ lb))] 30)
  have belx := bel.alloc bel.size (.cells #[.int .i64 3, .int .i64 0, .string (str (la ++ lb))] 30)
  have lwx := Nat.le_refl w7.heap.size
  go_wp2_with fail
  refine (RMB _).mono ?_
  rintro e w8 ⟨rfl, g⟩
  have qal2 : w.heap.size < w7.heap.size := lt_of_block qa
  clear qac0 qac1 qac2 qax0 qax1 qax2 qal
  replace qa := (g.block _ (lt_of_block qax)).trans qax
  clear qax
  have qbl2 : w.heap.size + 1 < w7.heap.size := lt_of_block qb
  clear qbc0 qbc1 qbc2 qbx0 qbx1 qbx2 qbl
  replace qb := (g.block _ (lt_of_block qbx)).trans qbx
  clear qbx
  have qjl2 : w1.heap.size < w7.heap.size := lt_of_block qj
  clear qjc0 qjc1 qjc2 qjx0 qjx1 qjx2 qjl
  replace qj := (g.block _ (lt_of_block qjx)).trans qjx
  clear qjx
  have qll2 : w2.heap.size < w7.heap.size := lt_of_block ql
  clear qlc0 qlc1 qlc2 qlx0 qlx1 qlx2 qll
  replace ql := (g.block _ (lt_of_block qlx)).trans qlx
  clear qlx
  have qnl2 : w3.heap.size < w7.heap.size := lt_of_block qn
  clear qnc0 qnc1 qnc2 qnx0 qnx1 qnx2 qnl
  replace qn := (g.block _ (lt_of_block qnx)).trans qnx
  clear qnx
  have qsl2 : w4.heap.size < w7.heap.size := lt_of_block qs
  clear qsc0 qsc1 qsc2 qsx0 qsx1 qsx2 qsl
  replace qs := (g.block _ (lt_of_block qsx)).trans qsx
  clear qsx
  have qw := (g.block _ (lt_of_block qwx)).trans qwx
  clear qwx
  replace bel := chain belx g
  clear belx g
  obtain ⟨qac0, qac1, qac2⟩ := cells3 qa
  have qal := lt_of_block qa
  obtain ⟨qbc0, qbc1, qbc2⟩ := cells3 qb
  have qbl := lt_of_block qb
  obtain ⟨qjc0, qjc1, qjc2⟩ := cells3 qj
  have qjl := lt_of_block qj
  obtain ⟨qlc0, qlc1, qlc2⟩ := cells3 ql
  have qll := lt_of_block ql
  obtain ⟨qnc0, qnc1, qnc2⟩ := cells3 qn
  have qnl := lt_of_block qn
  obtain ⟨qsc0, qsc1, qsc2⟩ := cells3 qs
  have qsl := lt_of_block qs
  obtain ⟨qwc0, qwc1, qwc2⟩ := cells3 qw
  have qwl := lt_of_block qw
  have fz := frozen3 qw
  have qay := put3_old (B := w7.heap.size) (u0 := .int .i64 0) (u1 := .int .i64 0) (u2 := .string (ByteArray.mk #[])) qa (by omega)
  obtain ⟨qay0, qay1, qay2⟩ := cells3 qay
  have qby := put3_old (B := w7.heap.size) (u0 := .int .i64 0) (u1 := .int .i64 0) (u2 := .string (ByteArray.mk #[])) qb (by omega)
  obtain ⟨qby0, qby1, qby2⟩ := cells3 qby
  have qjy := put3_old (B := w7.heap.size) (u0 := .int .i64 0) (u1 := .int .i64 0) (u2 := .string (ByteArray.mk #[])) qj (by omega)
  obtain ⟨qjy0, qjy1, qjy2⟩ := cells3 qjy
  have qly := put3_old (B := w7.heap.size) (u0 := .int .i64 0) (u1 := .int .i64 0) (u2 := .string (ByteArray.mk #[])) ql (by omega)
  obtain ⟨qly0, qly1, qly2⟩ := cells3 qly
  have qny := put3_old (B := w7.heap.size) (u0 := .int .i64 0) (u1 := .int .i64 0) (u2 := .string (ByteArray.mk #[])) qn (by omega)
  obtain ⟨qny0, qny1, qny2⟩ := cells3 qny
  have qsy := put3_old (B := w7.heap.size) (u0 := .int .i64 0) (u1 := .int .i64 0) (u2 := .string (ByteArray.mk #[])) qs (by omega)
  obtain ⟨qsy0, qsy1, qsy2⟩ := cells3 qsy
  have qwy := put3 (.int .i64 0) (.int .i64 0) (.string (ByteArray.mk #[])) qw
  obtain ⟨qwy0, qwy1, qwy2⟩ := cells3 qwy
  have bely := put3_below (B := w7.heap.size) (u0 := .int .i64 0) (u1 := .int .i64 0) (u2 := .string (ByteArray.mk #[])) bel (by have := bel.size; have := qal2; omega)
  go_wp2_with fail
  refine (IS _).mono ?_
  rintro e w9 ⟨rfl, g⟩
  replace bel := chain bely g
  clear bely g
  clear qac0 qac1 qac2 qal qay qay0 qay1 qay2 qa
  clear qbc0 qbc1 qbc2 qbl qby qby0 qby1 qby2 qb
  clear qjc0 qjc1 qjc2 qjl qjy qjy0 qjy1 qjy2 qj
  clear qlc0 qlc1 qlc2 qll qly qly0 qly1 qly2 ql
  clear qnc0 qnc1 qnc2 qnl qny qny0 qny1 qny2 qn
  clear qsc0 qsc1 qsc2 qsl qsy qsy0 qsy1 qsy2 qs
  clear qwc0 qwc1 qwc2 qwl qwy qwy0 qwy1 qwy2 qw
  go_wp2_with fail
  refine (AW _).mono ?_
  rintro e w10 ⟨rfl, g⟩
  replace bel := chain bel g
  go_wp2_with fail
  go_ret
  exact ⟨rfl, bel⟩
set_option maxRecDepth 100000 in
set_option maxHeartbeats 8000000 in
theorem texts_3k (ia : Int) (sa : List UInt8) (ib : Int) (sb : List UInt8) (la lb : List UInt8) (ss : List UInt8) (w : World)
    (FA : ∀ w, Calls Tryd.prog 36 #[.agg #[.int .i64 3, .int .i64 ia, .string (str sa)]] w fun e w' => e = .returned (.agg #[.int .i64 3, .int .i64 ia, .string (str la)]) ∧ Below w.heap.size w w')
    (FB : ∀ w, Calls Tryd.prog 36 #[.agg #[.int .i64 3, .int .i64 ib, .string (str sb)]] w fun e w' => e = .returned (.agg #[.int .i64 3, .int .i64 ib, .string (str lb)]) ∧ Below w.heap.size w w')
    (CJ : ∀ w, Calls Tryd.prog 37 #[.agg #[.int .i64 3, .int .i64 ia, .string (str la)], .agg #[.int .i64 3, .int .i64 ib, .string (str lb)]] w fun e w' => e = .returned (.tuple #[.agg #[.int .i64 3, .int .i64 0, .string (str (la ++ lb))], .int .i64 0]) ∧ Below w.heap.size w w')
    (CL : ∀ w, Calls Tryd.prog 38 #[.agg #[.int .i64 3, .int .i64 ia, .string (str la)]] w fun e w' => e = .returned (.tuple #[.agg #[.int .i64 2, .int .i64 (la.length : Int), .string (str [])], .int .i64 0]) ∧ Below w.heap.size w w')
    (CN : ∀ w, Calls Tryd.prog 39 #[.agg #[.int .i64 3, .int .i64 ia, .string (str la)]] w fun e w' => e = .returned (.tuple #[.agg #[.int .i64 0, .int .i64 0, .string (str [])], .int .i64 10]) ∧ Below w.heap.size w w')
    (CS : ∀ W, Below w.heap.size w W → Calls Tryd.prog 40 #[.agg #[.int .i64 3, .int .i64 ia, .string (str la)]] W fun e w' => e = .returned (.tuple #[.agg #[.int .i64 3, .int .i64 0, .string (str ss)], .int .i64 0]) ∧ Below W.heap.size W w')
    (RMA : ∀ w, Calls Tryd.prog 41 #[.agg #[.int .i64 3, .int .i64 ia, .string (str la)]] w fun e w' => e = .returned (.bool true) ∧ Below w.heap.size w w')
    (CRS : ∀ w, Calls Tryd.prog 43 #[.agg #[.int .i64 3, .int .i64 ia, .string (str la)]] w fun e w' => e = .returned (.string (str ss)) ∧ Below w.heap.size w w')
    (RMB : ∀ w, Calls Tryd.prog 41 #[.agg #[.int .i64 3, .int .i64 ib, .string (str lb)]] w fun e w' => e = .returned (.bool true) ∧ Below w.heap.size w w')
    (hla : la.length ≤ 200) (hlb : lb.length ≤ 200) (hlong : la.length + lb.length ≤ 64) :
    Calls Tryd.prog 9 #[.agg #[.int .i64 3, .int .i64 ia, .string (str sa)], .agg #[.int .i64 3, .int .i64 ib, .string (str sb)]] w fun e w' => e = .returned (.bool true) ∧ Below w.heap.size w w' := by
  have AW := awake_any
  have IS := is_same 3 0 (la ++ lb) 0
  obtain ⟨qa, qb, -, -⟩ := two_allocs w (.cells #[.int .i64 3, .int .i64 ia, .string (str sa)] 30) (.cells #[.int .i64 3, .int .i64 ib, .string (str sb)] 30)
  have bel : Below w.heap.size w ((w.alloc (.cells #[.int .i64 3, .int .i64 ia, .string (str sa)] 30)).alloc (.cells #[.int .i64 3, .int .i64 ib, .string (str sb)] 30)) := ((Below.refl _ w).alloc (Nat.le_refl _) _).alloc (by simp) _
  go_enter Tryd.func9, Tryd.ntmps9
  go_wp2_with fail
  obtain ⟨W0, hW0⟩ : ∃ W0, W0 = (w.alloc (.cells #[.int .i64 3, .int .i64 ia, .string (str sa)] 30)).alloc (.cells #[.int .i64 3, .int .i64 ib, .string (str sb)] 30) := ⟨_, rfl⟩
  rw [← hW0] at qa qb bel ⊢
  clear hW0
  have bel := below_drewN (k := 1) bel
  refine t_start 4 (by kernel_rfl) ?_
  refine t_take (i := 0) (d := (some 16)) (v := ?_) rfl rfl (by kernel_rfl) (fun _ _ _ h => h) (by rfl) (fun w' hb' => ?_) ?_
  rotate_left
  · have zz := (hb'.block _ (lt_of_block qa)).trans qa; obtain ⟨c0, c1, c2⟩ := cells3 zz; (try go_simp); (try with_reducible rfl)
  try simp only [Act.put, List.setIfInBounds_toArray, List.set_cons_zero, List.set_cons_succ]
  refine t_take (i := 2) (d := (some 18)) (v := ?_) rfl rfl (by kernel_rfl) (fun _ _ _ h => h) (by rfl) (fun w' hb' => ?_) ?_
  rotate_left
  · have zz := (hb'.block _ (lt_of_block qb)).trans qb; obtain ⟨c0, c1, c2⟩ := cells3 zz; (try go_simp); (try with_reducible rfl)
  try simp only [Act.put, List.setIfInBounds_toArray, List.set_cons_zero, List.set_cons_succ]
  refine t_run (i := 1) rfl (by kernel_rfl) (by kernel_rfl) (by rfl) (fun K hK => ?_)
  go_simp
  refine (FA _).mono ?_
  rintro e y1 ⟨rfl, gg⟩
  have qa := (gg.block _ (lt_of_block qa)).trans qa
  have qb := (gg.block _ (lt_of_block qb)).trans qb
  have bel := chain bel gg
  refine hK _ _ ⟨gg, ?_⟩
  clear hK K gg
  try simp only [Act.put, List.setIfInBounds_toArray, List.set_cons_zero, List.set_cons_succ]
  refine t_run (i := 3) rfl (by kernel_rfl) (by kernel_rfl) (by rfl) (fun K hK => ?_)
  go_simp
  refine (FB _).mono ?_
  rintro e y2 ⟨rfl, gg⟩
  have qa := (gg.block _ (lt_of_block qa)).trans qa
  have qb := (gg.block _ (lt_of_block qb)).trans qb
  have bel := chain bel gg
  refine hK _ _ ⟨gg, ?_⟩
  clear hK K gg
  try simp only [Act.put, List.setIfInBounds_toArray, List.set_cons_zero, List.set_cons_succ]
  refine t_into ?_
  refine t_tail (i := 4) rfl (by kernel_rfl) (by kernel_rfl) (by rfl) (fun K hK => ?_)
  obtain ⟨c0, c1, c2⟩ := cells3 qa
  have cf := frozen3 qa
  have hl := lt_of_block qa
  go_simp
  refine hK _ _ ?_
  clear hK K c0 c1 c2 cf hl
  have qa := put3 (.int .i64 3) (.int .i64 ia) (.string (str la)) qa
  have qb := put3_old (B := w.heap.size) (u0 := .int .i64 3) (u1 := .int .i64 ia) (u2 := .string (str la)) qb (by omega)
  have bel := put3_below (B := w.heap.size) (u0 := .int .i64 3) (u1 := .int .i64 ia) (u2 := .string (str la)) bel (by omega)
  obtain ⟨y3, hy3⟩ : ∃ W, W = (((y2.setCell ⟨w.heap.size, 0, none⟩ (.int .i64 3)).setCell ⟨w.heap.size, 1, none⟩ (.int .i64 ia)).setCell ⟨w.heap.size, 2, none⟩ (.string (str la))) := ⟨_, rfl⟩
  rw [← hy3] at qa qb bel
  change wpO _ _ _ _ _ _ _ (((y2.setCell ⟨w.heap.size, 0, none⟩ (.int .i64 3)).setCell ⟨w.heap.size, 1, none⟩ (.int .i64 ia)).setCell ⟨w.heap.size, 2, none⟩ (.string (str la)))
  rw [← hy3]
  clear hy3
  try simp only [Act.put, List.setIfInBounds_toArray, List.set_cons_zero, List.set_cons_succ]
  refine t_tail (i := 5) rfl (by kernel_rfl) (by kernel_rfl) (by rfl) (fun K hK => ?_)
  obtain ⟨c0, c1, c2⟩ := cells3 qb
  have cf := frozen3 qb
  have hl := lt_of_block qb
  go_simp
  refine hK _ _ ?_
  clear hK K c0 c1 c2 cf hl
  have qa := put3_old (B := w.heap.size + 1) (u0 := .int .i64 3) (u1 := .int .i64 ib) (u2 := .string (str lb)) qa (by omega)
  have qb := put3 (.int .i64 3) (.int .i64 ib) (.string (str lb)) qb
  have bel := put3_below (B := w.heap.size + 1) (u0 := .int .i64 3) (u1 := .int .i64 ib) (u2 := .string (str lb)) bel (by omega)
  obtain ⟨y4, hy4⟩ : ∃ W, W = (((y3.setCell ⟨w.heap.size + 1, 0, none⟩ (.int .i64 3)).setCell ⟨w.heap.size + 1, 1, none⟩ (.int .i64 ib)).setCell ⟨w.heap.size + 1, 2, none⟩ (.string (str lb))) := ⟨_, rfl⟩
  rw [← hy4] at qa qb bel
  change wpO _ _ _ _ _ _ _ (((y3.setCell ⟨w.heap.size + 1, 0, none⟩ (.int .i64 3)).setCell ⟨w.heap.size + 1, 1, none⟩ (.int .i64 ib)).setCell ⟨w.heap.size + 1, 2, none⟩ (.string (str lb)))
  rw [← hy4]
  clear hy4
  try simp only [Act.put, List.setIfInBounds_toArray, List.set_cons_zero, List.set_cons_succ]
  refine t_over (by kernel_rfl) ?_
  obtain ⟨qac0, qac1, qac2⟩ := cells3 qa
  have qal := lt_of_block qa
  obtain ⟨qbc0, qbc1, qbc2⟩ := cells3 qb
  have qbl := lt_of_block qb
  go_wp2_with fail
  refine (CJ _).mono ?_
  rintro e w1 ⟨rfl, g⟩
  clear qac0 qac1 qac2 qal
  replace qa := (g.block _ (lt_of_block qa)).trans qa
  clear qbc0 qbc1 qbc2 qbl
  replace qb := (g.block _ (lt_of_block qb)).trans qb
  replace bel := chain bel g
  clear g
  obtain ⟨qac0, qac1, qac2⟩ := cells3 qa
  have qal := lt_of_block qa
  obtain ⟨qbc0, qbc1, qbc2⟩ := cells3 qb
  have qbl := lt_of_block qb
  clear qac0 qac1 qac2 qal
  replace qa := (heap_alloc_old w1 (.cells #[.int .i64 3, .int .i64 0, .string (str (la ++ lb))] 30) (lt_of_block qa)).trans qa
  clear qbc0 qbc1 qbc2 qbl
  replace qb := (heap_alloc_old w1 (.cells #[.int .i64 3, .int .i64 0, .string (str (la ++ lb))] 30) (lt_of_block qb)).trans qb
  have qj := heap_alloc_new w1 (.cells #[.int .i64 3, .int .i64 0, .string (str (la ++ lb))] 30)
  replace bel := bel.alloc bel.size (.cells #[.int .i64 3, .int .i64 0, .string (str (la ++ lb))] 30)
  obtain ⟨qac0, qac1, qac2⟩ := cells3 qa
  have qal := lt_of_block qa
  obtain ⟨qbc0, qbc1, qbc2⟩ := cells3 qb
  have qbl := lt_of_block qb
  obtain ⟨qjc0, qjc1, qjc2⟩ := cells3 qj
  have qjl := lt_of_block qj
  go_wp2_with fail
  refine (CL _).mono ?_
  rintro e w2 ⟨rfl, g⟩
  clear qac0 qac1 qac2 qal
  replace qa := (g.block _ (lt_of_block qa)).trans qa
  clear qbc0 qbc1 qbc2 qbl
  replace qb := (g.block _ (lt_of_block qb)).trans qb
  clear qjc0 qjc1 qjc2 qjl
  replace qj := (g.block _ (lt_of_block qj)).trans qj
  replace bel := chain bel g
  clear g
  obtain ⟨qac0, qac1, qac2⟩ := cells3 qa
  have qal := lt_of_block qa
  obtain ⟨qbc0, qbc1, qbc2⟩ := cells3 qb
  have qbl := lt_of_block qb
  obtain ⟨qjc0, qjc1, qjc2⟩ := cells3 qj
  have qjl := lt_of_block qj
  clear qac0 qac1 qac2 qal
  replace qa := (heap_alloc_old w2 (.cells #[.int .i64 2, .int .i64 (la.length : Int), .string (str [])] 30) (lt_of_block qa)).trans qa
  clear qbc0 qbc1 qbc2 qbl
  replace qb := (heap_alloc_old w2 (.cells #[.int .i64 2, .int .i64 (la.length : Int), .string (str [])] 30) (lt_of_block qb)).trans qb
  clear qjc0 qjc1 qjc2 qjl
  replace qj := (heap_alloc_old w2 (.cells #[.int .i64 2, .int .i64 (la.length : Int), .string (str [])] 30) (lt_of_block qj)).trans qj
  have ql := heap_alloc_new w2 (.cells #[.int .i64 2, .int .i64 (la.length : Int), .string (str [])] 30)
  replace bel := bel.alloc bel.size (.cells #[.int .i64 2, .int .i64 (la.length : Int), .string (str [])] 30)
  obtain ⟨qac0, qac1, qac2⟩ := cells3 qa
  have qal := lt_of_block qa
  obtain ⟨qbc0, qbc1, qbc2⟩ := cells3 qb
  have qbl := lt_of_block qb
  obtain ⟨qjc0, qjc1, qjc2⟩ := cells3 qj
  have qjl := lt_of_block qj
  obtain ⟨qlc0, qlc1, qlc2⟩ := cells3 ql
  have qll := lt_of_block ql
  go_wp2_with fail
  refine (CN _).mono ?_
  rintro e w3 ⟨rfl, g⟩
  clear qac0 qac1 qac2 qal
  replace qa := (g.block _ (lt_of_block qa)).trans qa
  clear qbc0 qbc1 qbc2 qbl
  replace qb := (g.block _ (lt_of_block qb)).trans qb
  clear qjc0 qjc1 qjc2 qjl
  replace qj := (g.block _ (lt_of_block qj)).trans qj
  clear qlc0 qlc1 qlc2 qll
  replace ql := (g.block _ (lt_of_block ql)).trans ql
  replace bel := chain bel g
  clear g
  obtain ⟨qac0, qac1, qac2⟩ := cells3 qa
  have qal := lt_of_block qa
  obtain ⟨qbc0, qbc1, qbc2⟩ := cells3 qb
  have qbl := lt_of_block qb
  obtain ⟨qjc0, qjc1, qjc2⟩ := cells3 qj
  have qjl := lt_of_block qj
  obtain ⟨qlc0, qlc1, qlc2⟩ := cells3 ql
  have qll := lt_of_block ql
  clear qac0 qac1 qac2 qal
  replace qa := (heap_alloc_old w3 (.cells #[.int .i64 0, .int .i64 0, .string (str [])] 30) (lt_of_block qa)).trans qa
  clear qbc0 qbc1 qbc2 qbl
  replace qb := (heap_alloc_old w3 (.cells #[.int .i64 0, .int .i64 0, .string (str [])] 30) (lt_of_block qb)).trans qb
  clear qjc0 qjc1 qjc2 qjl
  replace qj := (heap_alloc_old w3 (.cells #[.int .i64 0, .int .i64 0, .string (str [])] 30) (lt_of_block qj)).trans qj
  clear qlc0 qlc1 qlc2 qll
  replace ql := (heap_alloc_old w3 (.cells #[.int .i64 0, .int .i64 0, .string (str [])] 30) (lt_of_block ql)).trans ql
  have qn := heap_alloc_new w3 (.cells #[.int .i64 0, .int .i64 0, .string (str [])] 30)
  replace bel := bel.alloc bel.size (.cells #[.int .i64 0, .int .i64 0, .string (str [])] 30)
  obtain ⟨qac0, qac1, qac2⟩ := cells3 qa
  have qal := lt_of_block qa
  obtain ⟨qbc0, qbc1, qbc2⟩ := cells3 qb
  have qbl := lt_of_block qb
  obtain ⟨qjc0, qjc1, qjc2⟩ := cells3 qj
  have qjl := lt_of_block qj
  obtain ⟨qlc0, qlc1, qlc2⟩ := cells3 ql
  have qll := lt_of_block ql
  obtain ⟨qnc0, qnc1, qnc2⟩ := cells3 qn
  have qnl := lt_of_block qn
  go_wp2_with fail
  refine (CS _ bel).mono ?_
  rintro e w4 ⟨rfl, g⟩
  clear qac0 qac1 qac2 qal
  replace qa := (g.block _ (lt_of_block qa)).trans qa
  clear qbc0 qbc1 qbc2 qbl
  replace qb := (g.block _ (lt_of_block qb)).trans qb
  clear qjc0 qjc1 qjc2 qjl
  replace qj := (g.block _ (lt_of_block qj)).trans qj
  clear qlc0 qlc1 qlc2 qll
  replace ql := (g.block _ (lt_of_block ql)).trans ql
  clear qnc0 qnc1 qnc2 qnl
  replace qn := (g.block _ (lt_of_block qn)).trans qn
  replace bel := chain bel g
  clear g
  obtain ⟨qac0, qac1, qac2⟩ := cells3 qa
  have qal := lt_of_block qa
  obtain ⟨qbc0, qbc1, qbc2⟩ := cells3 qb
  have qbl := lt_of_block qb
  obtain ⟨qjc0, qjc1, qjc2⟩ := cells3 qj
  have qjl := lt_of_block qj
  obtain ⟨qlc0, qlc1, qlc2⟩ := cells3 ql
  have qll := lt_of_block ql
  obtain ⟨qnc0, qnc1, qnc2⟩ := cells3 qn
  have qnl := lt_of_block qn
  clear qac0 qac1 qac2 qal
  replace qa := (heap_alloc_old w4 (.cells #[.int .i64 3, .int .i64 0, .string (str ss)] 30) (lt_of_block qa)).trans qa
  clear qbc0 qbc1 qbc2 qbl
  replace qb := (heap_alloc_old w4 (.cells #[.int .i64 3, .int .i64 0, .string (str ss)] 30) (lt_of_block qb)).trans qb
  clear qjc0 qjc1 qjc2 qjl
  replace qj := (heap_alloc_old w4 (.cells #[.int .i64 3, .int .i64 0, .string (str ss)] 30) (lt_of_block qj)).trans qj
  clear qlc0 qlc1 qlc2 qll
  replace ql := (heap_alloc_old w4 (.cells #[.int .i64 3, .int .i64 0, .string (str ss)] 30) (lt_of_block ql)).trans ql
  clear qnc0 qnc1 qnc2 qnl
  replace qn := (heap_alloc_old w4 (.cells #[.int .i64 3, .int .i64 0, .string (str ss)] 30) (lt_of_block qn)).trans qn
  have qs := heap_alloc_new w4 (.cells #[.int .i64 3, .int .i64 0, .string (str ss)] 30)
  replace bel := bel.alloc bel.size (.cells #[.int .i64 3, .int .i64 0, .string (str ss)] 30)
  obtain ⟨qac0, qac1, qac2⟩ := cells3 qa
  have qal := lt_of_block qa
  obtain ⟨qbc0, qbc1, qbc2⟩ := cells3 qb
  have qbl := lt_of_block qb
  obtain ⟨qjc0, qjc1, qjc2⟩ := cells3 qj
  have qjl := lt_of_block qj
  obtain ⟨qlc0, qlc1, qlc2⟩ := cells3 ql
  have qll := lt_of_block ql
  obtain ⟨qnc0, qnc1, qnc2⟩ := cells3 qn
  have qnl := lt_of_block qn
  obtain ⟨qsc0, qsc1, qsc2⟩ := cells3 qs
  have qsl := lt_of_block qs
  go_wp2_with fail
  refine (RMA _).mono ?_
  rintro e w5 ⟨rfl, g⟩
  clear qac0 qac1 qac2 qal
  replace qa := (g.block _ (lt_of_block qa)).trans qa
  clear qbc0 qbc1 qbc2 qbl
  replace qb := (g.block _ (lt_of_block qb)).trans qb
  clear qjc0 qjc1 qjc2 qjl
  replace qj := (g.block _ (lt_of_block qj)).trans qj
  clear qlc0 qlc1 qlc2 qll
  replace ql := (g.block _ (lt_of_block ql)).trans ql
  clear qnc0 qnc1 qnc2 qnl
  replace qn := (g.block _ (lt_of_block qn)).trans qn
  clear qsc0 qsc1 qsc2 qsl
  replace qs := (g.block _ (lt_of_block qs)).trans qs
  replace bel := chain bel g
  clear g
  obtain ⟨qac0, qac1, qac2⟩ := cells3 qa
  have qal := lt_of_block qa
  obtain ⟨qbc0, qbc1, qbc2⟩ := cells3 qb
  have qbl := lt_of_block qb
  obtain ⟨qjc0, qjc1, qjc2⟩ := cells3 qj
  have qjl := lt_of_block qj
  obtain ⟨qlc0, qlc1, qlc2⟩ := cells3 ql
  have qll := lt_of_block ql
  obtain ⟨qnc0, qnc1, qnc2⟩ := cells3 qn
  have qnl := lt_of_block qn
  obtain ⟨qsc0, qsc1, qsc2⟩ := cells3 qs
  have qsl := lt_of_block qs
  go_wp2_with fail
  clear qal qac0 qac1 qac2
  clear qbl qbc0 qbc1 qbc2
  clear qjl qjc0 qjc1 qjc2
  clear qll qlc0 qlc1 qlc2
  clear qnl qnc0 qnc1 qnc2
  clear qsl qsc0 qsc1 qsc2
  have bel := below_drewN (k := 1) bel
  refine g_start (by kernel_rfl) ?_
  refine g_take (i := 0) (d := (some 82)) (v := ?_) rfl rfl (by kernel_rfl) (fun _ _ _ h => h) (by rfl) (fun w' hb' => ?_) ?_
  rotate_left
  · (try go_simp); (try with_reducible rfl)
  try simp only [Act.put, List.setIfInBounds_toArray, List.set_cons_zero, List.set_cons_succ]
  refine g_take (i := 1) (d := (some 83)) (v := ?_) rfl rfl (by kernel_rfl) (fun _ _ _ h => h) (by rfl) (fun w' hb' => ?_) ?_
  rotate_left
  · (try go_simp); (try with_reducible rfl)
  try simp only [Act.put, List.setIfInBounds_toArray, List.set_cons_zero, List.set_cons_succ]
  refine g_take (i := 2) (d := (some 84)) (v := ?_) rfl rfl (by kernel_rfl) (fun _ _ _ h => h) (by rfl) (fun w' hb' => ?_) ?_
  rotate_left
  · (try go_simp); (try with_reducible rfl)
  try simp only [Act.put, List.setIfInBounds_toArray, List.set_cons_zero, List.set_cons_succ]
  refine g_take (i := 3) (d := (some 85)) (v := ?_) rfl rfl (by kernel_rfl) (fun _ _ _ h => h) (by rfl) (fun w' hb' => ?_) ?_
  rotate_left
  · have zz := (hb'.block _ (lt_of_block qs)).trans qs; obtain ⟨c0, c1, c2⟩ := cells3 zz; (try go_simp); (try with_reducible rfl)
  try simp only [Act.put, List.setIfInBounds_toArray, List.set_cons_zero, List.set_cons_succ]
  refine g_take (i := 4) (d := (some 86)) (v := ?_) rfl rfl (by kernel_rfl) (fun _ _ _ h => h) (by rfl) (fun w' hb' => ?_) ?_
  rotate_left
  · have zz := (hb'.block _ (lt_of_block qa)).trans qa; obtain ⟨c0, c1, c2⟩ := cells3 zz; (try go_simp); (try with_reducible rfl)
  try simp only [Act.put, List.setIfInBounds_toArray, List.set_cons_zero, List.set_cons_succ]
  refine g_run (i := 5) rfl (by kernel_rfl) (by rfl) (fun K hK => ?_)
  go_simp
  refine (CRS _).mono ?_
  rintro e w6 ⟨rfl, gg⟩
  have qa := (gg.block _ (lt_of_block qa)).trans qa
  have qb := (gg.block _ (lt_of_block qb)).trans qb
  have qj := (gg.block _ (lt_of_block qj)).trans qj
  have ql := (gg.block _ (lt_of_block ql)).trans ql
  have qn := (gg.block _ (lt_of_block qn)).trans qn
  have qs := (gg.block _ (lt_of_block qs)).trans qs
  have bel := chain bel gg
  refine hK _ _ ⟨gg, ?_⟩
  clear hK K gg
  try simp only [Act.put, List.setIfInBounds_toArray, List.set_cons_zero, List.set_cons_succ]
  refine g_run (i := 6) rfl (by kernel_rfl) (by rfl) (fun K hK => ?_)
  go_simp
  refine hK _ _ ⟨Below.refl _ _, ?_⟩
  clear hK K
  try simp only [Act.put, List.setIfInBounds_toArray, List.set_cons_zero, List.set_cons_succ]
  refine g_take (i := 7) (d := (some 89)) (v := ?_) rfl rfl (by kernel_rfl) (fun _ _ _ h => h) (by rfl) (fun w' hb' => ?_) ?_
  rotate_left
  · (refine val_ne_op _ _ (.tmp 85) (.tmp 88) 30 3 0 ss ?_ ?_ ?_ w' <;> rfl); (try go_simp); (try with_reducible rfl)
  try simp only [Act.put, List.setIfInBounds_toArray, List.set_cons_zero, List.set_cons_succ]
  refine g_take (i := 8) (d := (some 90)) (v := ?_) rfl rfl (by kernel_rfl) (fun _ _ _ h => h) (by rfl) (fun w' hb' => ?_) ?_
  rotate_left
  · (try go_simp); (try with_reducible rfl)
  try simp only [Act.put, List.setIfInBounds_toArray, List.set_cons_zero, List.set_cons_succ]
  refine g_done (by kernel_rfl) ?_
  obtain ⟨qac0, qac1, qac2⟩ := cells3 qa
  have qal := lt_of_block qa
  obtain ⟨qbc0, qbc1, qbc2⟩ := cells3 qb
  have qbl := lt_of_block qb
  obtain ⟨qjc0, qjc1, qjc2⟩ := cells3 qj
  have qjl := lt_of_block qj
  obtain ⟨qlc0, qlc1, qlc2⟩ := cells3 ql
  have qll := lt_of_block ql
  obtain ⟨qnc0, qnc1, qnc2⟩ := cells3 qn
  have qnl := lt_of_block qn
  obtain ⟨qsc0, qsc1, qsc2⟩ := cells3 qs
  have qsl := lt_of_block qs
  have VN : ∀ w, (binOp .neq 30 (.agg #[.int .i64 0, .int .i64 0, .string (str [])]) (.agg #[.int .i64 0, .int .i64 0, .string (ByteArray.mk #[])])).run Tryd.prog w = .ok (.bool false) w := fun w => val_ne 0 0 [] w
  have hza : (str la).size ≤ 200 := by rw [str_size]; exact hla
  have hzb : (str lb).size ≤ 200 := by rw [str_size]; exact hlb
  have sza : ((str la).size : Int) = (la.length : Int) := by rw [str_size]
  have szb : ((str lb).size : Int) = (lb.length : Int) := by rw [str_size]
  have hsum : (la.length : Int) + (lb.length : Int) ≤ 64 := by omega
  go_wp2_with fail
  clear qal qac0 qac1 qac2
  clear qbl qbc0 qbc1 qbc2
  clear qjl qjc0 qjc1 qjc2
  clear qll qlc0 qlc1 qlc2
  clear qnl qnc0 qnc1 qnc2
  clear qsl qsc0 qsc1 qsc2
  have bel := below_drewN (k := 1) bel
  refine g_start (by kernel_rfl) ?_
  refine g_take (i := 0) (d := (some 94)) (v := ?_) rfl rfl (by kernel_rfl) (fun _ _ _ h => h) (by rfl) (fun w' hb' => ?_) ?_
  rotate_left
  · have zz := (hb'.block _ (lt_of_block ql)).trans ql; obtain ⟨c0, c1, c2⟩ := cells3 zz; (try go_simp); (try with_reducible rfl)
  try simp only [Act.put, List.setIfInBounds_toArray, List.set_cons_zero, List.set_cons_succ]
  refine g_take (i := 1) (d := (some 95)) (v := ?_) rfl rfl (by kernel_rfl) (fun _ _ _ h => h) (by rfl) (fun w' hb' => ?_) ?_
  rotate_left
  · have zz := (hb'.block _ (lt_of_block qa)).trans qa; obtain ⟨c0, c1, c2⟩ := cells3 zz; (try go_simp); (try with_reducible rfl)
  try simp only [Act.put, List.setIfInBounds_toArray, List.set_cons_zero, List.set_cons_succ]
  refine g_take (i := 2) (d := (some 96)) (v := ?_) rfl rfl (by kernel_rfl) (fun _ _ _ h => h) (by rfl) (fun w' hb' => ?_) ?_
  rotate_left
  · have zz := (hb'.block _ (lt_of_block qa)).trans qa; obtain ⟨c0, c1, c2⟩ := cells3 zz; (try go_simp); (try with_reducible rfl)
  try simp only [Act.put, List.setIfInBounds_toArray, List.set_cons_zero, List.set_cons_succ]
  refine g_take (i := 3) (d := (some 97)) (v := ?_) rfl rfl (by kernel_rfl) (fun _ _ _ h => h) (by rfl) (fun w' hb' => ?_) ?_
  rotate_left
  · (try go_simp); (try with_reducible rfl)
  try simp only [Act.put, List.setIfInBounds_toArray, List.set_cons_zero, List.set_cons_succ]
  refine g_run (i := 4) rfl (by kernel_rfl) (by rfl) (fun K hK => ?_)
  go_simp
  refine (refInt_any _ _).mono ?_
  rintro e w7 ⟨rfl, gg⟩
  have qa := (gg.block _ (lt_of_block qa)).trans qa
  have qb := (gg.block _ (lt_of_block qb)).trans qb
  have qj := (gg.block _ (lt_of_block qj)).trans qj
  have ql := (gg.block _ (lt_of_block ql)).trans ql
  have qn := (gg.block _ (lt_of_block qn)).trans qn
  have qs := (gg.block _ (lt_of_block qs)).trans qs
  have bel := chain bel gg
  refine hK _ _ ⟨gg, ?_⟩
  clear hK K gg
  try simp only [Act.put, List.setIfInBounds_toArray, List.set_cons_zero, List.set_cons_succ]
  refine g_take (i := 5) (d := (some 99)) (v := ?_) rfl rfl (by kernel_rfl) (fun _ _ _ h => h) (by rfl) (fun w' hb' => ?_) ?_
  rotate_left
  · (refine val_ne_op _ _ (.tmp 94) (.tmp 98) 30 2 (la.length : Int) [] ?_ ?_ ?_ w' <;> rfl); (try go_simp); (try with_reducible rfl)
  try simp only [Act.put, List.setIfInBounds_toArray, List.set_cons_zero, List.set_cons_succ]
  refine g_take (i := 6) (d := (some 100)) (v := ?_) rfl rfl (by kernel_rfl) (fun _ _ _ h => h) (by rfl) (fun w' hb' => ?_) ?_
  rotate_left
  · (try go_simp); (try with_reducible rfl)
  try simp only [Act.put, List.setIfInBounds_toArray, List.set_cons_zero, List.set_cons_succ]
  refine g_take (i := 7) (d := (some 101)) (v := ?_) rfl rfl (by kernel_rfl) (fun _ _ _ h => h) (by rfl) (fun w' hb' => ?_) ?_
  rotate_left
  · (try go_simp); (try with_reducible rfl)
  try simp only [Act.put, List.setIfInBounds_toArray, List.set_cons_zero, List.set_cons_succ]
  refine g_take (i := 8) (d := (some 102)) (v := ?_) rfl rfl (by kernel_rfl) (fun _ _ _ h => h) (by rfl) (fun w' hb' => ?_) ?_
  rotate_left
  · (try go_simp); (try with_reducible rfl)
  try simp only [Act.put, List.setIfInBounds_toArray, List.set_cons_zero, List.set_cons_succ]
  refine g_take (i := 9) (d := (some 103)) (v := ?_) rfl rfl (by kernel_rfl) (fun _ _ _ h => h) (by rfl) (fun w' hb' => ?_) ?_
  rotate_left
  · (try go_simp); (try with_reducible rfl)
  try simp only [Act.put, List.setIfInBounds_toArray, List.set_cons_zero, List.set_cons_succ]
  refine g_done (by kernel_rfl) ?_
  obtain ⟨qac0, qac1, qac2⟩ := cells3 qa
  have qal := lt_of_block qa
  obtain ⟨qbc0, qbc1, qbc2⟩ := cells3 qb
  have qbl := lt_of_block qb
  obtain ⟨qjc0, qjc1, qjc2⟩ := cells3 qj
  have qjl := lt_of_block qj
  obtain ⟨qlc0, qlc1, qlc2⟩ := cells3 ql
  have qll := lt_of_block ql
  obtain ⟨qnc0, qnc1, qnc2⟩ := cells3 qn
  have qnl := lt_of_block qn
  obtain ⟨qsc0, qsc1, qsc2⟩ := cells3 qs
  have qsl := lt_of_block qs
  have hcat : ∀ (w : World), (Op.stringOp .add (str la) (str lb)).run Tryd.prog w = .ok (.string (str (la ++ lb))) w := fun w => by rw [run_string_add_sum w _ _ (by omega), str_cat]
  have hcat2 : ∀ (w : World), (binOp .add 9 (.string (str la)) (.string (str lb))).run Tryd.prog w = .ok (.string (str (la ++ lb))) w := fun w => by rw [binOp_string_add, run_string_add_sum w _ _ (by omega), str_cat]
  have qax := (heap_alloc_old w7 (.cells #[.int .i64 3, .int .i64 0, .string (str (la ++ lb))] 30) (lt_of_block qa)).trans qa
  obtain ⟨qax0, qax1, qax2⟩ := cells3 qax
  have qbx := (heap_alloc_old w7 (.cells #[.int .i64 3, .int .i64 0, .string (str (la ++ lb))] 30) (lt_of_block qb)).trans qb
  obtain ⟨qbx0, qbx1, qbx2⟩ := cells3 qbx
  have qjx := (heap_alloc_old w7 (.cells #[.int .i64 3, .int .i64 0, .string (str (la ++ lb))] 30) (lt_of_block qj)).trans qj
  obtain ⟨qjx0, qjx1, qjx2⟩ := cells3 qjx
  have qlx := (heap_alloc_old w7 (.cells #[.int .i64 3, .int .i64 0, .string (str (la ++ lb))] 30) (lt_of_block ql)).trans ql
  obtain ⟨qlx0, qlx1, qlx2⟩ := cells3 qlx
  have qnx := (heap_alloc_old w7 (.cells #[.int .i64 3, .int .i64 0, .string (str (la ++ lb))] 30) (lt_of_block qn)).trans qn
  obtain ⟨qnx0, qnx1, qnx2⟩ := cells3 qnx
  have qsx := (heap_alloc_old w7 (.cells #[.int .i64 3, .int .i64 0, .string (str (la ++ lb))] 30) (lt_of_block qs)).trans qs
  obtain ⟨qsx0, qsx1, qsx2⟩ := cells3 qsx
  have qwx := heap_alloc_new w7 (.cells #[.int .i64 3, .int .i64 0, .string (str (la ++ lb))] 30)
  have belx := bel.alloc bel.size (.cells #[.int .i64 3, .int .i64 0, .string (str (la ++ lb))] 30)
  have lwx := Nat.le_refl w7.heap.size
  go_wp2_with fail
  refine (RMB _).mono ?_
  rintro e w8 ⟨rfl, g⟩
  have qal2 : w.heap.size < w7.heap.size := lt_of_block qa
  clear qac0 qac1 qac2 qax0 qax1 qax2 qal
  replace qa := (g.block _ (lt_of_block qax)).trans qax
  clear qax
  have qbl2 : w.heap.size + 1 < w7.heap.size := lt_of_block qb
  clear qbc0 qbc1 qbc2 qbx0 qbx1 qbx2 qbl
  replace qb := (g.block _ (lt_of_block qbx)).trans qbx
  clear qbx
  have qjl2 : w1.heap.size < w7.heap.size := lt_of_block qj
  clear qjc0 qjc1 qjc2 qjx0 qjx1 qjx2 qjl
  replace qj := (g.block _ (lt_of_block qjx)).trans qjx
  clear qjx
  have qll2 : w2.heap.size < w7.heap.size := lt_of_block ql
  clear qlc0 qlc1 qlc2 qlx0 qlx1 qlx2 qll
  replace ql := (g.block _ (lt_of_block qlx)).trans qlx
  clear qlx
  have qnl2 : w3.heap.size < w7.heap.size := lt_of_block qn
  clear qnc0 qnc1 qnc2 qnx0 qnx1 qnx2 qnl
  replace qn := (g.block _ (lt_of_block qnx)).trans qnx
  clear qnx
  have qsl2 : w4.heap.size < w7.heap.size := lt_of_block qs
  clear qsc0 qsc1 qsc2 qsx0 qsx1 qsx2 qsl
  replace qs := (g.block _ (lt_of_block qsx)).trans qsx
  clear qsx
  have qw := (g.block _ (lt_of_block qwx)).trans qwx
  clear qwx
  replace bel := chain belx g
  clear belx g
  obtain ⟨qac0, qac1, qac2⟩ := cells3 qa
  have qal := lt_of_block qa
  obtain ⟨qbc0, qbc1, qbc2⟩ := cells3 qb
  have qbl := lt_of_block qb
  obtain ⟨qjc0, qjc1, qjc2⟩ := cells3 qj
  have qjl := lt_of_block qj
  obtain ⟨qlc0, qlc1, qlc2⟩ := cells3 ql
  have qll := lt_of_block ql
  obtain ⟨qnc0, qnc1, qnc2⟩ := cells3 qn
  have qnl := lt_of_block qn
  obtain ⟨qsc0, qsc1, qsc2⟩ := cells3 qs
  have qsl := lt_of_block qs
  obtain ⟨qwc0, qwc1, qwc2⟩ := cells3 qw
  have qwl := lt_of_block qw
  go_wp2_with fail
  refine (IS _).mono ?_
  rintro e w9 ⟨rfl, g⟩
  clear qac0 qac1 qac2 qal
  replace qa := (g.block _ (lt_of_block qa)).trans qa
  clear qbc0 qbc1 qbc2 qbl
  replace qb := (g.block _ (lt_of_block qb)).trans qb
  clear qjc0 qjc1 qjc2 qjl
  replace qj := (g.block _ (lt_of_block qj)).trans qj
  clear qlc0 qlc1 qlc2 qll
  replace ql := (g.block _ (lt_of_block ql)).trans ql
  clear qnc0 qnc1 qnc2 qnl
  replace qn := (g.block _ (lt_of_block qn)).trans qn
  clear qsc0 qsc1 qsc2 qsl
  replace qs := (g.block _ (lt_of_block qs)).trans qs
  clear qwc0 qwc1 qwc2 qwl
  replace qw := (g.block _ (lt_of_block qw)).trans qw
  replace bel := chain bel g
  clear g
  obtain ⟨qac0, qac1, qac2⟩ := cells3 qa
  have qal := lt_of_block qa
  obtain ⟨qbc0, qbc1, qbc2⟩ := cells3 qb
  have qbl := lt_of_block qb
  obtain ⟨qjc0, qjc1, qjc2⟩ := cells3 qj
  have qjl := lt_of_block qj
  obtain ⟨qlc0, qlc1, qlc2⟩ := cells3 ql
  have qll := lt_of_block ql
  obtain ⟨qnc0, qnc1, qnc2⟩ := cells3 qn
  have qnl := lt_of_block qn
  obtain ⟨qsc0, qsc1, qsc2⟩ := cells3 qs
  have qsl := lt_of_block qs
  obtain ⟨qwc0, qwc1, qwc2⟩ := cells3 qw
  have qwl := lt_of_block qw
  go_wp2_with fail
  refine (AW _).mono ?_
  rintro e w10 ⟨rfl, g⟩
  clear qac0 qac1 qac2 qal
  replace qa := (g.block _ (lt_of_block qa)).trans qa
  clear qbc0 qbc1 qbc2 qbl
  replace qb := (g.block _ (lt_of_block qb)).trans qb
  clear qjc0 qjc1 qjc2 qjl
  replace qj := (g.block _ (lt_of_block qj)).trans qj
  clear qlc0 qlc1 qlc2 qll
  replace ql := (g.block _ (lt_of_block ql)).trans ql
  clear qnc0 qnc1 qnc2 qnl
  replace qn := (g.block _ (lt_of_block qn)).trans qn
  clear qsc0 qsc1 qsc2 qsl
  replace qs := (g.block _ (lt_of_block qs)).trans qs
  clear qwc0 qwc1 qwc2 qwl
  replace qw := (g.block _ (lt_of_block qw)).trans qw
  replace bel := chain bel g
  clear g
  obtain ⟨qac0, qac1, qac2⟩ := cells3 qa
  have qal := lt_of_block qa
  obtain ⟨qbc0, qbc1, qbc2⟩ := cells3 qb
  have qbl := lt_of_block qb
  obtain ⟨qjc0, qjc1, qjc2⟩ := cells3 qj
  have qjl := lt_of_block qj
  obtain ⟨qlc0, qlc1, qlc2⟩ := cells3 ql
  have qll := lt_of_block ql
  obtain ⟨qnc0, qnc1, qnc2⟩ := cells3 qn
  have qnl := lt_of_block qn
  obtain ⟨qsc0, qsc1, qsc2⟩ := cells3 qs
  have qsl := lt_of_block qs
  obtain ⟨qwc0, qwc1, qwc2⟩ := cells3 qw
  have qwl := lt_of_block qw
  go_wp2_with fail
  go_ret
  exact ⟨rfl, bel⟩
end Go.Proofs.YtcehgfganjdghaaDoor.V7
