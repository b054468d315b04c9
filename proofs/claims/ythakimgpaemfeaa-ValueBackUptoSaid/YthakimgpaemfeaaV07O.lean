/- Values: the law ValueOrder. Written by wip/tools/gen7o.py. -/
import Derived.Test.YthakimgpaemfeaaV07L
import Derived.Test.YthakimgpaemfeaaRegU
namespace Go.Proofs.Ythakimgpaemfeaa
open Go Go.RowKit
set_option linter.unusedVariables false
set_option linter.unusedSimpArgs false
theorem val_eq_no (k i : Int) (s : List UInt8) (k' i' : Int) (s' : List UInt8) (h : (⟨k, i, s⟩ : V) ≠ ⟨k', i', s'⟩) (w : World) : (binOp .eql 23 (.agg #[.int .i64 k, .int .i64 i, .string (str s)]) (.agg #[.int .i64 k', .int .i64 i', .string (str s')])).run Try.prog w = .ok (.bool false) w := by
  go_simp
  by_cases h1 : k = k'
  · by_cases h2 : i = i'
    · by_cases h3 : s = s'
      · exact absurd (by rw [h1, h2, h3]) h
      · simp [h1, h2, h3, str_tl]
    · simp [h1, h2, str_tl]
  · simp [h1, str_tl]
theorem put3 {w : World} {B : Nat} {a0 a1 a2 : Value} (u0 u1 u2 : Value) {t : TypeId} (h : w.heap[B]? = some (.cells #[a0, a1, a2] t (0, 0))) :
    (((w.setCell ⟨B, 0, none⟩ u0).setCell ⟨B, 1, none⟩ u1).setCell ⟨B, 2, none⟩ u2).heap[B]? = some (.cells #[u0, u1, u2] t (0, 0)) := by
  simpa using set_at (i := 2) (u := u2) (set_at (i := 1) (u := u1) (set_at (i := 0) (u := u0) h))
theorem put3_old {w : World} {B k : Nat} {u0 u1 u2 : Value} {o : Obj} (h : w.heap[k]? = some o) (hk : k ≠ B) :
    (((w.setCell ⟨B, 0, none⟩ u0).setCell ⟨B, 1, none⟩ u1).setCell ⟨B, 2, none⟩ u2).heap[k]? = some o := by
  rw [set_old hk, set_old hk, set_old hk, h]
theorem put3_below {w v : World} {B n : Nat} {u0 u1 u2 : Value} (hb : Below n v w) (hn : n ≤ B) : Below n v (((w.setCell ⟨B, 0, none⟩ u0).setCell ⟨B, 1, none⟩ u1).setCell ⟨B, 2, none⟩ u2) :=
  ((hb.setCell (p := ⟨B, 0, none⟩) hn u0).setCell (p := ⟨B, 1, none⟩) hn u1).setCell (p := ⟨B, 2, none⟩) hn u2
set_option maxRecDepth 100000 in
set_option maxHeartbeats 8000000 in
theorem ord_m1 (ka ia : Int) (sa : List UInt8) (kb ib : Int) (sb : List UInt8) (kc ic : Int) (sc : List UInt8) (la lb lc : List UInt8) (w : World)
    (FA : ∀ w, Calls Try.prog 10 #[.agg #[.int .i64 ka, .int .i64 ia, .string (str sa)]] w fun e w' => e = .returned (.agg #[.int .i64 ka, .int .i64 ia, .string (str la)]) ∧ Below w.heap.size w w')
    (FB : ∀ w, Calls Try.prog 10 #[.agg #[.int .i64 kb, .int .i64 ib, .string (str sb)]] w fun e w' => e = .returned (.agg #[.int .i64 kb, .int .i64 ib, .string (str lb)]) ∧ Below w.heap.size w w')
    (FC : ∀ w, Calls Try.prog 10 #[.agg #[.int .i64 kc, .int .i64 ic, .string (str sc)]] w fun e w' => e = .returned (.agg #[.int .i64 kc, .int .i64 ic, .string (str lc)]) ∧ Below w.heap.size w w')
    (MA : ∀ w, Calls Try.prog 14 #[.agg #[.int .i64 ka, .int .i64 ia, .string (str la)]] w fun e w' => e = .returned (.bool false) ∧ Below w.heap.size w w') :
    Calls Try.prog 8 #[.agg #[.int .i64 ka, .int .i64 ia, .string (str sa)], .agg #[.int .i64 kb, .int .i64 ib, .string (str sb)], .agg #[.int .i64 kc, .int .i64 ic, .string (str sc)]] w fun e w' => e = .returned (.bool true) ∧ Below w.heap.size w w' := by
  have AW := awake_any
  obtain ⟨qa, qb, qc⟩ := three_allocs w (.cells #[.int .i64 ka, .int .i64 ia, .string (str sa)] 23) (.cells #[.int .i64 kb, .int .i64 ib, .string (str sb)] 23) (.cells #[.int .i64 kc, .int .i64 ic, .string (str sc)] 23)
  have bel : Below w.heap.size w (((w.alloc (.cells #[.int .i64 ka, .int .i64 ia, .string (str sa)] 23)).alloc (.cells #[.int .i64 kb, .int .i64 ib, .string (str sb)] 23)).alloc (.cells #[.int .i64 kc, .int .i64 ic, .string (str sc)] 23)) := (((Below.refl _ w).alloc (Nat.le_refl _) _).alloc (by simp) _).alloc (by simp; omega) _
  go_enter Try.func8, Try.ntmps8
  go_wp2_with fail
  obtain ⟨W0, hW0⟩ : ∃ W0, W0 = ((w.alloc (.cells #[.int .i64 ka, .int .i64 ia, .string (str sa)] 23)).alloc (.cells #[.int .i64 kb, .int .i64 ib, .string (str sb)] 23)).alloc (.cells #[.int .i64 kc, .int .i64 ic, .string (str sc)] 23) := ⟨_, rfl⟩
  rw [← hW0] at qa qb qc bel ⊢
  clear hW0
  have bel := below_drewN (k := 1) bel
  refine t_start 6 (by kernel_rfl) ?_
  refine t_take (i := 0) (d := (some 8)) (v := ?_) rfl rfl (by kernel_rfl) (fun _ _ _ h => h) (by rfl) (fun w' hb' => ?_) ?_
  rotate_left
  · have zz := (hb'.block _ (lt_of_block qa)).trans qa; obtain ⟨c0, c1, c2⟩ := cells3 zz; (try go_simp); (try with_reducible rfl)
  try simp only [Act.put, List.setIfInBounds_toArray, List.set_cons_zero, List.set_cons_succ]
  refine t_take (i := 2) (d := (some 10)) (v := ?_) rfl rfl (by kernel_rfl) (fun _ _ _ h => h) (by rfl) (fun w' hb' => ?_) ?_
  rotate_left
  · have zz := (hb'.block _ (lt_of_block qb)).trans qb; obtain ⟨c0, c1, c2⟩ := cells3 zz; (try go_simp); (try with_reducible rfl)
  try simp only [Act.put, List.setIfInBounds_toArray, List.set_cons_zero, List.set_cons_succ]
  refine t_take (i := 4) (d := (some 12)) (v := ?_) rfl rfl (by kernel_rfl) (fun _ _ _ h => h) (by rfl) (fun w' hb' => ?_) ?_
  rotate_left
  · have zz := (hb'.block _ (lt_of_block qc)).trans qc; obtain ⟨c0, c1, c2⟩ := cells3 zz; (try go_simp); (try with_reducible rfl)
  try simp only [Act.put, List.setIfInBounds_toArray, List.set_cons_zero, List.set_cons_succ]
  refine t_run (i := 1) rfl (by kernel_rfl) (by kernel_rfl) (by rfl) (fun K hK => ?_)
  go_simp
  refine (FA _).mono ?_
  rintro e y1 ⟨rfl, gg⟩
  have qa := (gg.block _ (lt_of_block qa)).trans qa
  have qb := (gg.block _ (lt_of_block qb)).trans qb
  have qc := (gg.block _ (lt_of_block qc)).trans qc
  have bel := chain bel gg
  refine hK _ _ ⟨gg, ?_⟩
  clear hK K gg
  try simp only [Act.put, List.setIfInBounds_toArray, List.set_cons_zero, List.set_cons_succ]
  refine t_run (i := 3) rfl (by kernel_rfl) (by kernel_rfl) (by rfl) (fun K hK => ?_)
  go_simp
  refine (FB _).mono ?_
  rintro e y2 ⟨rfl, gg⟩
  have qa := (gg.block _ (lt_of_block qa)).trans qa
  have qb := (gg.block _ (lt_of_block qb)).trans qb
  have qc := (gg.block _ (lt_of_block qc)).trans qc
  have bel := chain bel gg
  refine hK _ _ ⟨gg, ?_⟩
  clear hK K gg
  try simp only [Act.put, List.setIfInBounds_toArray, List.set_cons_zero, List.set_cons_succ]
  refine t_run (i := 5) rfl (by kernel_rfl) (by kernel_rfl) (by rfl) (fun K hK => ?_)
  go_simp
  refine (FC _).mono ?_
  rintro e y3 ⟨rfl, gg⟩
  have qa := (gg.block _ (lt_of_block qa)).trans qa
  have qb := (gg.block _ (lt_of_block qb)).trans qb
  have qc := (gg.block _ (lt_of_block qc)).trans qc
  have bel := chain bel gg
  refine hK _ _ ⟨gg, ?_⟩
  clear hK K gg
  try simp only [Act.put, List.setIfInBounds_toArray, List.set_cons_zero, List.set_cons_succ]
  refine t_into ?_
  refine t_tail (i := 6) rfl (by kernel_rfl) (by kernel_rfl) (by rfl) (fun K hK => ?_)
  obtain ⟨c0, c1, c2⟩ := cells3 qa
  have cf := frozen3 qa
  have hl := lt_of_block qa
  go_simp
  refine hK _ _ ?_
  clear hK K c0 c1 c2 cf hl
  have qa := put3 (.int .i64 ka) (.int .i64 ia) (.string (str la)) qa
  have qb := put3_old (B := w.heap.size) (u0 := .int .i64 ka) (u1 := .int .i64 ia) (u2 := .string (str la)) qb (by omega)
  have qc := put3_old (B := w.heap.size) (u0 := .int .i64 ka) (u1 := .int .i64 ia) (u2 := .string (str la)) qc (by omega)
  have bel := put3_below (B := w.heap.size) (u0 := .int .i64 ka) (u1 := .int .i64 ia) (u2 := .string (str la)) bel (by omega)
  obtain ⟨y4, hy4⟩ : ∃ W, W = (((y3.setCell ⟨w.heap.size, 0, none⟩ (.int .i64 ka)).setCell ⟨w.heap.size, 1, none⟩ (.int .i64 ia)).setCell ⟨w.heap.size, 2, none⟩ (.string (str la))) := ⟨_, rfl⟩
  rw [← hy4] at qa qb qc bel
  change wpO _ _ _ _ _ _ _ (((y3.setCell ⟨w.heap.size, 0, none⟩ (.int .i64 ka)).setCell ⟨w.heap.size, 1, none⟩ (.int .i64 ia)).setCell ⟨w.heap.size, 2, none⟩ (.string (str la)))
  rw [← hy4]
  clear hy4
  try simp only [Act.put, List.setIfInBounds_toArray, List.set_cons_zero, List.set_cons_succ]
  refine t_tail (i := 7) rfl (by kernel_rfl) (by kernel_rfl) (by rfl) (fun K hK => ?_)
  obtain ⟨c0, c1, c2⟩ := cells3 qb
  have cf := frozen3 qb
  have hl := lt_of_block qb
  go_simp
  refine hK _ _ ?_
  clear hK K c0 c1 c2 cf hl
  have qa := put3_old (B := w.heap.size + 1) (u0 := .int .i64 kb) (u1 := .int .i64 ib) (u2 := .string (str lb)) qa (by omega)
  have qb := put3 (.int .i64 kb) (.int .i64 ib) (.string (str lb)) qb
  have qc := put3_old (B := w.heap.size + 1) (u0 := .int .i64 kb) (u1 := .int .i64 ib) (u2 := .string (str lb)) qc (by omega)
  have bel := put3_below (B := w.heap.size + 1) (u0 := .int .i64 kb) (u1 := .int .i64 ib) (u2 := .string (str lb)) bel (by omega)
  obtain ⟨y5, hy5⟩ : ∃ W, W = (((y4.setCell ⟨w.heap.size + 1, 0, none⟩ (.int .i64 kb)).setCell ⟨w.heap.size + 1, 1, none⟩ (.int .i64 ib)).setCell ⟨w.heap.size + 1, 2, none⟩ (.string (str lb))) := ⟨_, rfl⟩
  rw [← hy5] at qa qb qc bel
  change wpO _ _ _ _ _ _ _ (((y4.setCell ⟨w.heap.size + 1, 0, none⟩ (.int .i64 kb)).setCell ⟨w.heap.size + 1, 1, none⟩ (.int .i64 ib)).setCell ⟨w.heap.size + 1, 2, none⟩ (.string (str lb)))
  rw [← hy5]
  clear hy5
  try simp only [Act.put, List.setIfInBounds_toArray, List.set_cons_zero, List.set_cons_succ]
  refine t_tail (i := 8) rfl (by kernel_rfl) (by kernel_rfl) (by rfl) (fun K hK => ?_)
  obtain ⟨c0, c1, c2⟩ := cells3 qc
  have cf := frozen3 qc
  have hl := lt_of_block qc
  go_simp
  refine hK _ _ ?_
  clear hK K c0 c1 c2 cf hl
  have qa := put3_old (B := w.heap.size + 2) (u0 := .int .i64 kc) (u1 := .int .i64 ic) (u2 := .string (str lc)) qa (by omega)
  have qb := put3_old (B := w.heap.size + 2) (u0 := .int .i64 kc) (u1 := .int .i64 ic) (u2 := .string (str lc)) qb (by omega)
  have qc := put3 (.int .i64 kc) (.int .i64 ic) (.string (str lc)) qc
  have bel := put3_below (B := w.heap.size + 2) (u0 := .int .i64 kc) (u1 := .int .i64 ic) (u2 := .string (str lc)) bel (by omega)
  obtain ⟨y6, hy6⟩ : ∃ W, W = (((y5.setCell ⟨w.heap.size + 2, 0, none⟩ (.int .i64 kc)).setCell ⟨w.heap.size + 2, 1, none⟩ (.int .i64 ic)).setCell ⟨w.heap.size + 2, 2, none⟩ (.string (str lc))) := ⟨_, rfl⟩
  rw [← hy6] at qa qb qc bel
  change wpO _ _ _ _ _ _ _ (((y5.setCell ⟨w.heap.size + 2, 0, none⟩ (.int .i64 kc)).setCell ⟨w.heap.size + 2, 1, none⟩ (.int .i64 ic)).setCell ⟨w.heap.size + 2, 2, none⟩ (.string (str lc)))
  rw [← hy6]
  clear hy6
  try simp only [Act.put, List.setIfInBounds_toArray, List.set_cons_zero, List.set_cons_succ]
  refine t_over (by kernel_rfl) ?_
  obtain ⟨qac0, qac1, qac2⟩ := cells3 qa
  have qal := lt_of_block qa
  obtain ⟨qbc0, qbc1, qbc2⟩ := cells3 qb
  have qbl := lt_of_block qb
  obtain ⟨qcc0, qcc1, qcc2⟩ := cells3 qc
  have qcl := lt_of_block qc
  go_wp2_with fail
  refine (MA _).mono ?_
  rintro e w1 ⟨rfl, g⟩
  clear qac0 qac1 qac2 qal
  replace qa := (g.block _ (lt_of_block qa)).trans qa
  clear qbc0 qbc1 qbc2 qbl
  replace qb := (g.block _ (lt_of_block qb)).trans qb
  clear qcc0 qcc1 qcc2 qcl
  replace qc := (g.block _ (lt_of_block qc)).trans qc
  replace bel := chain bel g
  clear g
  obtain ⟨qac0, qac1, qac2⟩ := cells3 qa
  have qal := lt_of_block qa
  obtain ⟨qbc0, qbc1, qbc2⟩ := cells3 qb
  have qbl := lt_of_block qb
  obtain ⟨qcc0, qcc1, qcc2⟩ := cells3 qc
  have qcl := lt_of_block qc
  go_wp2_with fail
  refine (AW _).mono ?_
  rintro e w2 ⟨rfl, g⟩
  clear qac0 qac1 qac2 qal
  replace qa := (g.block _ (lt_of_block qa)).trans qa
  clear qbc0 qbc1 qbc2 qbl
  replace qb := (g.block _ (lt_of_block qb)).trans qb
  clear qcc0 qcc1 qcc2 qcl
  replace qc := (g.block _ (lt_of_block qc)).trans qc
  replace bel := chain bel g
  clear g
  obtain ⟨qac0, qac1, qac2⟩ := cells3 qa
  have qal := lt_of_block qa
  obtain ⟨qbc0, qbc1, qbc2⟩ := cells3 qb
  have qbl := lt_of_block qb
  obtain ⟨qcc0, qcc1, qcc2⟩ := cells3 qc
  have qcl := lt_of_block qc
  go_wp2_with fail
  go_ret
  exact ⟨rfl, bel⟩
set_option maxRecDepth 100000 in
set_option maxHeartbeats 8000000 in
theorem ord_m2 (ka ia : Int) (sa : List UInt8) (kb ib : Int) (sb : List UInt8) (kc ic : Int) (sc : List UInt8) (la lb lc : List UInt8) (w : World)
    (FA : ∀ w, Calls Try.prog 10 #[.agg #[.int .i64 ka, .int .i64 ia, .string (str sa)]] w fun e w' => e = .returned (.agg #[.int .i64 ka, .int .i64 ia, .string (str la)]) ∧ Below w.heap.size w w')
    (FB : ∀ w, Calls Try.prog 10 #[.agg #[.int .i64 kb, .int .i64 ib, .string (str sb)]] w fun e w' => e = .returned (.agg #[.int .i64 kb, .int .i64 ib, .string (str lb)]) ∧ Below w.heap.size w w')
    (FC : ∀ w, Calls Try.prog 10 #[.agg #[.int .i64 kc, .int .i64 ic, .string (str sc)]] w fun e w' => e = .returned (.agg #[.int .i64 kc, .int .i64 ic, .string (str lc)]) ∧ Below w.heap.size w w')
    (MA : ∀ w, Calls Try.prog 14 #[.agg #[.int .i64 ka, .int .i64 ia, .string (str la)]] w fun e w' => e = .returned (.bool true) ∧ Below w.heap.size w w')
    (MB : ∀ w, Calls Try.prog 14 #[.agg #[.int .i64 kb, .int .i64 ib, .string (str lb)]] w fun e w' => e = .returned (.bool false) ∧ Below w.heap.size w w') :
    Calls Try.prog 8 #[.agg #[.int .i64 ka, .int .i64 ia, .string (str sa)], .agg #[.int .i64 kb, .int .i64 ib, .string (str sb)], .agg #[.int .i64 kc, .int .i64 ic, .string (str sc)]] w fun e w' => e = .returned (.bool true) ∧ Below w.heap.size w w' := by
  have AW := awake_any
  obtain ⟨qa, qb, qc⟩ := three_allocs w (.cells #[.int .i64 ka, .int .i64 ia, .string (str sa)] 23) (.cells #[.int .i64 kb, .int .i64 ib, .string (str sb)] 23) (.cells #[.int .i64 kc, .int .i64 ic, .string (str sc)] 23)
  have bel : Below w.heap.size w (((w.alloc (.cells #[.int .i64 ka, .int .i64 ia, .string (str sa)] 23)).alloc (.cells #[.int .i64 kb, .int .i64 ib, .string (str sb)] 23)).alloc (.cells #[.int .i64 kc, .int .i64 ic, .string (str sc)] 23)) := (((Below.refl _ w).alloc (Nat.le_refl _) _).alloc (by simp) _).alloc (by simp; omega) _
  go_enter Try.func8, Try.ntmps8
  go_wp2_with fail
  obtain ⟨W0, hW0⟩ : ∃ W0, W0 = ((w.alloc (.cells #[.int .i64 ka, .int .i64 ia, .string (str sa)] 23)).alloc (.cells #[.int .i64 kb, .int .i64 ib, .string (str sb)] 23)).alloc (.cells #[.int .i64 kc, .int .i64 ic, .string (str sc)] 23) := ⟨_, rfl⟩
  rw [← hW0] at qa qb qc bel ⊢
  clear hW0
  have bel := below_drewN (k := 1) bel
  refine t_start 6 (by kernel_rfl) ?_
  refine t_take (i := 0) (d := (some 8)) (v := ?_) rfl rfl (by kernel_rfl) (fun _ _ _ h => h) (by rfl) (fun w' hb' => ?_) ?_
  rotate_left
  · have zz := (hb'.block _ (lt_of_block qa)).trans qa; obtain ⟨c0, c1, c2⟩ := cells3 zz; (try go_simp); (try with_reducible rfl)
  try simp only [Act.put, List.setIfInBounds_toArray, List.set_cons_zero, List.set_cons_succ]
  refine t_take (i := 2) (d := (some 10)) (v := ?_) rfl rfl (by kernel_rfl) (fun _ _ _ h => h) (by rfl) (fun w' hb' => ?_) ?_
  rotate_left
  · have zz := (hb'.block _ (lt_of_block qb)).trans qb; obtain ⟨c0, c1, c2⟩ := cells3 zz; (try go_simp); (try with_reducible rfl)
  try simp only [Act.put, List.setIfInBounds_toArray, List.set_cons_zero, List.set_cons_succ]
  refine t_take (i := 4) (d := (some 12)) (v := ?_) rfl rfl (by kernel_rfl) (fun _ _ _ h => h) (by rfl) (fun w' hb' => ?_) ?_
  rotate_left
  · have zz := (hb'.block _ (lt_of_block qc)).trans qc; obtain ⟨c0, c1, c2⟩ := cells3 zz; (try go_simp); (try with_reducible rfl)
  try simp only [Act.put, List.setIfInBounds_toArray, List.set_cons_zero, List.set_cons_succ]
  refine t_run (i := 1) rfl (by kernel_rfl) (by kernel_rfl) (by rfl) (fun K hK => ?_)
  go_simp
  refine (FA _).mono ?_
  rintro e y1 ⟨rfl, gg⟩
  have qa := (gg.block _ (lt_of_block qa)).trans qa
  have qb := (gg.block _ (lt_of_block qb)).trans qb
  have qc := (gg.block _ (lt_of_block qc)).trans qc
  have bel := chain bel gg
  refine hK _ _ ⟨gg, ?_⟩
  clear hK K gg
  try simp only [Act.put, List.setIfInBounds_toArray, List.set_cons_zero, List.set_cons_succ]
  refine t_run (i := 3) rfl (by kernel_rfl) (by kernel_rfl) (by rfl) (fun K hK => ?_)
  go_simp
  refine (FB _).mono ?_
  rintro e y2 ⟨rfl, gg⟩
  have qa := (gg.block _ (lt_of_block qa)).trans qa
  have qb := (gg.block _ (lt_of_block qb)).trans qb
  have qc := (gg.block _ (lt_of_block qc)).trans qc
  have bel := chain bel gg
  refine hK _ _ ⟨gg, ?_⟩
  clear hK K gg
  try simp only [Act.put, List.setIfInBounds_toArray, List.set_cons_zero, List.set_cons_succ]
  refine t_run (i := 5) rfl (by kernel_rfl) (by kernel_rfl) (by rfl) (fun K hK => ?_)
  go_simp
  refine (FC _).mono ?_
  rintro e y3 ⟨rfl, gg⟩
  have qa := (gg.block _ (lt_of_block qa)).trans qa
  have qb := (gg.block _ (lt_of_block qb)).trans qb
  have qc := (gg.block _ (lt_of_block qc)).trans qc
  have bel := chain bel gg
  refine hK _ _ ⟨gg, ?_⟩
  clear hK K gg
  try simp only [Act.put, List.setIfInBounds_toArray, List.set_cons_zero, List.set_cons_succ]
  refine t_into ?_
  refine t_tail (i := 6) rfl (by kernel_rfl) (by kernel_rfl) (by rfl) (fun K hK => ?_)
  obtain ⟨c0, c1, c2⟩ := cells3 qa
  have cf := frozen3 qa
  have hl := lt_of_block qa
  go_simp
  refine hK _ _ ?_
  clear hK K c0 c1 c2 cf hl
  have qa := put3 (.int .i64 ka) (.int .i64 ia) (.string (str la)) qa
  have qb := put3_old (B := w.heap.size) (u0 := .int .i64 ka) (u1 := .int .i64 ia) (u2 := .string (str la)) qb (by omega)
  have qc := put3_old (B := w.heap.size) (u0 := .int .i64 ka) (u1 := .int .i64 ia) (u2 := .string (str la)) qc (by omega)
  have bel := put3_below (B := w.heap.size) (u0 := .int .i64 ka) (u1 := .int .i64 ia) (u2 := .string (str la)) bel (by omega)
  obtain ⟨y4, hy4⟩ : ∃ W, W = (((y3.setCell ⟨w.heap.size, 0, none⟩ (.int .i64 ka)).setCell ⟨w.heap.size, 1, none⟩ (.int .i64 ia)).setCell ⟨w.heap.size, 2, none⟩ (.string (str la))) := ⟨_, rfl⟩
  rw [← hy4] at qa qb qc bel
  change wpO _ _ _ _ _ _ _ (((y3.setCell ⟨w.heap.size, 0, none⟩ (.int .i64 ka)).setCell ⟨w.heap.size, 1, none⟩ (.int .i64 ia)).setCell ⟨w.heap.size, 2, none⟩ (.string (str la)))
  rw [← hy4]
  clear hy4
  try simp only [Act.put, List.setIfInBounds_toArray, List.set_cons_zero, List.set_cons_succ]
  refine t_tail (i := 7) rfl (by kernel_rfl) (by kernel_rfl) (by rfl) (fun K hK => ?_)
  obtain ⟨c0, c1, c2⟩ := cells3 qb
  have cf := frozen3 qb
  have hl := lt_of_block qb
  go_simp
  refine hK _ _ ?_
  clear hK K c0 c1 c2 cf hl
  have qa := put3_old (B := w.heap.size + 1) (u0 := .int .i64 kb) (u1 := .int .i64 ib) (u2 := .string (str lb)) qa (by omega)
  have qb := put3 (.int .i64 kb) (.int .i64 ib) (.string (str lb)) qb
  have qc := put3_old (B := w.heap.size + 1) (u0 := .int .i64 kb) (u1 := .int .i64 ib) (u2 := .string (str lb)) qc (by omega)
  have bel := put3_below (B := w.heap.size + 1) (u0 := .int .i64 kb) (u1 := .int .i64 ib) (u2 := .string (str lb)) bel (by omega)
  obtain ⟨y5, hy5⟩ : ∃ W, W = (((y4.setCell ⟨w.heap.size + 1, 0, none⟩ (.int .i64 kb)).setCell ⟨w.heap.size + 1, 1, none⟩ (.int .i64 ib)).setCell ⟨w.heap.size + 1, 2, none⟩ (.string (str lb))) := ⟨_, rfl⟩
  rw [← hy5] at qa qb qc bel
  change wpO _ _ _ _ _ _ _ (((y4.setCell ⟨w.heap.size + 1, 0, none⟩ (.int .i64 kb)).setCell ⟨w.heap.size + 1, 1, none⟩ (.int .i64 ib)).setCell ⟨w.heap.size + 1, 2, none⟩ (.string (str lb)))
  rw [← hy5]
  clear hy5
  try simp only [Act.put, List.setIfInBounds_toArray, List.set_cons_zero, List.set_cons_succ]
  refine t_tail (i := 8) rfl (by kernel_rfl) (by kernel_rfl) (by rfl) (fun K hK => ?_)
  obtain ⟨c0, c1, c2⟩ := cells3 qc
  have cf := frozen3 qc
  have hl := lt_of_block qc
  go_simp
  refine hK _ _ ?_
  clear hK K c0 c1 c2 cf hl
  have qa := put3_old (B := w.heap.size + 2) (u0 := .int .i64 kc) (u1 := .int .i64 ic) (u2 := .string (str lc)) qa (by omega)
  have qb := put3_old (B := w.heap.size + 2) (u0 := .int .i64 kc) (u1 := .int .i64 ic) (u2 := .string (str lc)) qb (by omega)
  have qc := put3 (.int .i64 kc) (.int .i64 ic) (.string (str lc)) qc
  have bel := put3_below (B := w.heap.size + 2) (u0 := .int .i64 kc) (u1 := .int .i64 ic) (u2 := .string (str lc)) bel (by omega)
  obtain ⟨y6, hy6⟩ : ∃ W, W = (((y5.setCell ⟨w.heap.size + 2, 0, none⟩ (.int .i64 kc)).setCell ⟨w.heap.size + 2, 1, none⟩ (.int .i64 ic)).setCell ⟨w.heap.size + 2, 2, none⟩ (.string (str lc))) := ⟨_, rfl⟩
  rw [← hy6] at qa qb qc bel
  change wpO _ _ _ _ _ _ _ (((y5.setCell ⟨w.heap.size + 2, 0, none⟩ (.int .i64 kc)).setCell ⟨w.heap.size + 2, 1, none⟩ (.int .i64 ic)).setCell ⟨w.heap.size + 2, 2, none⟩ (.string (str lc)))
  rw [← hy6]
  clear hy6
  try simp only [Act.put, List.setIfInBounds_toArray, List.set_cons_zero, List.set_cons_succ]
  refine t_over (by kernel_rfl) ?_
  obtain ⟨qac0, qac1, qac2⟩ := cells3 qa
  have qal := lt_of_block qa
  obtain ⟨qbc0, qbc1, qbc2⟩ := cells3 qb
  have qbl := lt_of_block qb
  obtain ⟨qcc0, qcc1, qcc2⟩ := cells3 qc
  have qcl := lt_of_block qc
  go_wp2_with fail
  refine (MA _).mono ?_
  rintro e w1 ⟨rfl, g⟩
  clear qac0 qac1 qac2 qal
  replace qa := (g.block _ (lt_of_block qa)).trans qa
  clear qbc0 qbc1 qbc2 qbl
  replace qb := (g.block _ (lt_of_block qb)).trans qb
  clear qcc0 qcc1 qcc2 qcl
  replace qc := (g.block _ (lt_of_block qc)).trans qc
  replace bel := chain bel g
  clear g
  obtain ⟨qac0, qac1, qac2⟩ := cells3 qa
  have qal := lt_of_block qa
  obtain ⟨qbc0, qbc1, qbc2⟩ := cells3 qb
  have qbl := lt_of_block qb
  obtain ⟨qcc0, qcc1, qcc2⟩ := cells3 qc
  have qcl := lt_of_block qc
  go_wp2_with fail
  refine (MB _).mono ?_
  rintro e w2 ⟨rfl, g⟩
  clear qac0 qac1 qac2 qal
  replace qa := (g.block _ (lt_of_block qa)).trans qa
  clear qbc0 qbc1 qbc2 qbl
  replace qb := (g.block _ (lt_of_block qb)).trans qb
  clear qcc0 qcc1 qcc2 qcl
  replace qc := (g.block _ (lt_of_block qc)).trans qc
  replace bel := chain bel g
  clear g
  obtain ⟨qac0, qac1, qac2⟩ := cells3 qa
  have qal := lt_of_block qa
  obtain ⟨qbc0, qbc1, qbc2⟩ := cells3 qb
  have qbl := lt_of_block qb
  obtain ⟨qcc0, qcc1, qcc2⟩ := cells3 qc
  have qcl := lt_of_block qc
  go_wp2_with fail
  refine (AW _).mono ?_
  rintro e w3 ⟨rfl, g⟩
  clear qac0 qac1 qac2 qal
  replace qa := (g.block _ (lt_of_block qa)).trans qa
  clear qbc0 qbc1 qbc2 qbl
  replace qb := (g.block _ (lt_of_block qb)).trans qb
  clear qcc0 qcc1 qcc2 qcl
  replace qc := (g.block _ (lt_of_block qc)).trans qc
  replace bel := chain bel g
  clear g
  obtain ⟨qac0, qac1, qac2⟩ := cells3 qa
  have qal := lt_of_block qa
  obtain ⟨qbc0, qbc1, qbc2⟩ := cells3 qb
  have qbl := lt_of_block qb
  obtain ⟨qcc0, qcc1, qcc2⟩ := cells3 qc
  have qcl := lt_of_block qc
  go_wp2_with fail
  go_ret
  exact ⟨rfl, bel⟩
set_option maxRecDepth 100000 in
set_option maxHeartbeats 8000000 in
theorem ord_m3 (ka ia : Int) (sa : List UInt8) (kb ib : Int) (sb : List UInt8) (kc ic : Int) (sc : List UInt8) (la lb lc : List UInt8) (w : World)
    (FA : ∀ w, Calls Try.prog 10 #[.agg #[.int .i64 ka, .int .i64 ia, .string (str sa)]] w fun e w' => e = .returned (.agg #[.int .i64 ka, .int .i64 ia, .string (str la)]) ∧ Below w.heap.size w w')
    (FB : ∀ w, Calls Try.prog 10 #[.agg #[.int .i64 kb, .int .i64 ib, .string (str sb)]] w fun e w' => e = .returned (.agg #[.int .i64 kb, .int .i64 ib, .string (str lb)]) ∧ Below w.heap.size w w')
    (FC : ∀ w, Calls Try.prog 10 #[.agg #[.int .i64 kc, .int .i64 ic, .string (str sc)]] w fun e w' => e = .returned (.agg #[.int .i64 kc, .int .i64 ic, .string (str lc)]) ∧ Below w.heap.size w w')
    (MA : ∀ w, Calls Try.prog 14 #[.agg #[.int .i64 ka, .int .i64 ia, .string (str la)]] w fun e w' => e = .returned (.bool true) ∧ Below w.heap.size w w')
    (MB : ∀ w, Calls Try.prog 14 #[.agg #[.int .i64 kb, .int .i64 ib, .string (str lb)]] w fun e w' => e = .returned (.bool true) ∧ Below w.heap.size w w')
    (MC : ∀ w, Calls Try.prog 14 #[.agg #[.int .i64 kc, .int .i64 ic, .string (str lc)]] w fun e w' => e = .returned (.bool false) ∧ Below w.heap.size w w') :
    Calls Try.prog 8 #[.agg #[.int .i64 ka, .int .i64 ia, .string (str sa)], .agg #[.int .i64 kb, .int .i64 ib, .string (str sb)], .agg #[.int .i64 kc, .int .i64 ic, .string (str sc)]] w fun e w' => e = .returned (.bool true) ∧ Below w.heap.size w w' := by
  have AW := awake_any
  obtain ⟨qa, qb, qc⟩ := three_allocs w (.cells #[.int .i64 ka, .int .i64 ia, .string (str sa)] 23) (.cells #[.int .i64 kb, .int .i64 ib, .string (str sb)] 23) (.cells #[.int .i64 kc, .int .i64 ic, .string (str sc)] 23)
  have bel : Below w.heap.size w (((w.alloc (.cells #[.int .i64 ka, .int .i64 ia, .string (str sa)] 23)).alloc (.cells #[.int .i64 kb, .int .i64 ib, .string (str sb)] 23)).alloc (.cells #[.int .i64 kc, .int .i64 ic, .string (str sc)] 23)) := (((Below.refl _ w).alloc (Nat.le_refl _) _).alloc (by simp) _).alloc (by simp; omega) _
  go_enter Try.func8, Try.ntmps8
  go_wp2_with fail
  obtain ⟨W0, hW0⟩ : ∃ W0, W0 = ((w.alloc (.cells #[.int .i64 ka, .int .i64 ia, .string (str sa)] 23)).alloc (.cells #[.int .i64 kb, .int .i64 ib, .string (str sb)] 23)).alloc (.cells #[.int .i64 kc, .int .i64 ic, .string (str sc)] 23) := ⟨_, rfl⟩
  rw [← hW0] at qa qb qc bel ⊢
  clear hW0
  have bel := below_drewN (k := 1) bel
  refine t_start 6 (by kernel_rfl) ?_
  refine t_take (i := 0) (d := (some 8)) (v := ?_) rfl rfl (by kernel_rfl) (fun _ _ _ h => h) (by rfl) (fun w' hb' => ?_) ?_
  rotate_left
  · have zz := (hb'.block _ (lt_of_block qa)).trans qa; obtain ⟨c0, c1, c2⟩ := cells3 zz; (try go_simp); (try with_reducible rfl)
  try simp only [Act.put, List.setIfInBounds_toArray, List.set_cons_zero, List.set_cons_succ]
  refine t_take (i := 2) (d := (some 10)) (v := ?_) rfl rfl (by kernel_rfl) (fun _ _ _ h => h) (by rfl) (fun w' hb' => ?_) ?_
  rotate_left
  · have zz := (hb'.block _ (lt_of_block qb)).trans qb; obtain ⟨c0, c1, c2⟩ := cells3 zz; (try go_simp); (try with_reducible rfl)
  try simp only [Act.put, List.setIfInBounds_toArray, List.set_cons_zero, List.set_cons_succ]
  refine t_take (i := 4) (d := (some 12)) (v := ?_) rfl rfl (by kernel_rfl) (fun _ _ _ h => h) (by rfl) (fun w' hb' => ?_) ?_
  rotate_left
  · have zz := (hb'.block _ (lt_of_block qc)).trans qc; obtain ⟨c0, c1, c2⟩ := cells3 zz; (try go_simp); (try with_reducible rfl)
  try simp only [Act.put, List.setIfInBounds_toArray, List.set_cons_zero, List.set_cons_succ]
  refine t_run (i := 1) rfl (by kernel_rfl) (by kernel_rfl) (by rfl) (fun K hK => ?_)
  go_simp
  refine (FA _).mono ?_
  rintro e y1 ⟨rfl, gg⟩
  have qa := (gg.block _ (lt_of_block qa)).trans qa
  have qb := (gg.block _ (lt_of_block qb)).trans qb
  have qc := (gg.block _ (lt_of_block qc)).trans qc
  have bel := chain bel gg
  refine hK _ _ ⟨gg, ?_⟩
  clear hK K gg
  try simp only [Act.put, List.setIfInBounds_toArray, List.set_cons_zero, List.set_cons_succ]
  refine t_run (i := 3) rfl (by kernel_rfl) (by kernel_rfl) (by rfl) (fun K hK => ?_)
  go_simp
  refine (FB _).mono ?_
  rintro e y2 ⟨rfl, gg⟩
  have qa := (gg.block _ (lt_of_block qa)).trans qa
  have qb := (gg.block _ (lt_of_block qb)).trans qb
  have qc := (gg.block _ (lt_of_block qc)).trans qc
  have bel := chain bel gg
  refine hK _ _ ⟨gg, ?_⟩
  clear hK K gg
  try simp only [Act.put, List.setIfInBounds_toArray, List.set_cons_zero, List.set_cons_succ]
  refine t_run (i := 5) rfl (by kernel_rfl) (by kernel_rfl) (by rfl) (fun K hK => ?_)
  go_simp
  refine (FC _).mono ?_
  rintro e y3 ⟨rfl, gg⟩
  have qa := (gg.block _ (lt_of_block qa)).trans qa
  have qb := (gg.block _ (lt_of_block qb)).trans qb
  have qc := (gg.block _ (lt_of_block qc)).trans qc
  have bel := chain bel gg
  refine hK _ _ ⟨gg, ?_⟩
  clear hK K gg
  try simp only [Act.put, List.setIfInBounds_toArray, List.set_cons_zero, List.set_cons_succ]
  refine t_into ?_
  refine t_tail (i := 6) rfl (by kernel_rfl) (by kernel_rfl) (by rfl) (fun K hK => ?_)
  obtain ⟨c0, c1, c2⟩ := cells3 qa
  have cf := frozen3 qa
  have hl := lt_of_block qa
  go_simp
  refine hK _ _ ?_
  clear hK K c0 c1 c2 cf hl
  have qa := put3 (.int .i64 ka) (.int .i64 ia) (.string (str la)) qa
  have qb := put3_old (B := w.heap.size) (u0 := .int .i64 ka) (u1 := .int .i64 ia) (u2 := .string (str la)) qb (by omega)
  have qc := put3_old (B := w.heap.size) (u0 := .int .i64 ka) (u1 := .int .i64 ia) (u2 := .string (str la)) qc (by omega)
  have bel := put3_below (B := w.heap.size) (u0 := .int .i64 ka) (u1 := .int .i64 ia) (u2 := .string (str la)) bel (by omega)
  obtain ⟨y4, hy4⟩ : ∃ W, W = (((y3.setCell ⟨w.heap.size, 0, none⟩ (.int .i64 ka)).setCell ⟨w.heap.size, 1, none⟩ (.int .i64 ia)).setCell ⟨w.heap.size, 2, none⟩ (.string (str la))) := ⟨_, rfl⟩
  rw [← hy4] at qa qb qc bel
  change wpO _ _ _ _ _ _ _ (((y3.setCell ⟨w.heap.size, 0, none⟩ (.int .i64 ka)).setCell ⟨w.heap.size, 1, none⟩ (.int .i64 ia)).setCell ⟨w.heap.size, 2, none⟩ (.string (str la)))
  rw [← hy4]
  clear hy4
  try simp only [Act.put, List.setIfInBounds_toArray, List.set_cons_zero, List.set_cons_succ]
  refine t_tail (i := 7) rfl (by kernel_rfl) (by kernel_rfl) (by rfl) (fun K hK => ?_)
  obtain ⟨c0, c1, c2⟩ := cells3 qb
  have cf := frozen3 qb
  have hl := lt_of_block qb
  go_simp
  refine hK _ _ ?_
  clear hK K c0 c1 c2 cf hl
  have qa := put3_old (B := w.heap.size + 1) (u0 := .int .i64 kb) (u1 := .int .i64 ib) (u2 := .string (str lb)) qa (by omega)
  have qb := put3 (.int .i64 kb) (.int .i64 ib) (.string (str lb)) qb
  have qc := put3_old (B := w.heap.size + 1) (u0 := .int .i64 kb) (u1 := .int .i64 ib) (u2 := .string (str lb)) qc (by omega)
  have bel := put3_below (B := w.heap.size + 1) (u0 := .int .i64 kb) (u1 := .int .i64 ib) (u2 := .string (str lb)) bel (by omega)
  obtain ⟨y5, hy5⟩ : ∃ W, W = (((y4.setCell ⟨w.heap.size + 1, 0, none⟩ (.int .i64 kb)).setCell ⟨w.heap.size + 1, 1, none⟩ (.int .i64 ib)).setCell ⟨w.heap.size + 1, 2, none⟩ (.string (str lb))) := ⟨_, rfl⟩
  rw [← hy5] at qa qb qc bel
  change wpO _ _ _ _ _ _ _ (((y4.setCell ⟨w.heap.size + 1, 0, none⟩ (.int .i64 kb)).setCell ⟨w.heap.size + 1, 1, none⟩ (.int .i64 ib)).setCell ⟨w.heap.size + 1, 2, none⟩ (.string (str lb)))
  rw [← hy5]
  clear hy5
  try simp only [Act.put, List.setIfInBounds_toArray, List.set_cons_zero, List.set_cons_succ]
  refine t_tail (i := 8) rfl (by kernel_rfl) (by kernel_rfl) (by rfl) (fun K hK => ?_)
  obtain ⟨c0, c1, c2⟩ := cells3 qc
  have cf := frozen3 qc
  have hl := lt_of_block qc
  go_simp
  refine hK _ _ ?_
  clear hK K c0 c1 c2 cf hl
  have qa := put3_old (B := w.heap.size + 2) (u0 := .int .i64 kc) (u1 := .int .i64 ic) (u2 := .string (str lc)) qa (by omega)
  have qb := put3_old (B := w.heap.size + 2) (u0 := .int .i64 kc) (u1 := .int .i64 ic) (u2 := .string (str lc)) qb (by omega)
  have qc := put3 (.int .i64 kc) (.int .i64 ic) (.string (str lc)) qc
  have bel := put3_below (B := w.heap.size + 2) (u0 := .int .i64 kc) (u1 := .int .i64 ic) (u2 := .string (str lc)) bel (by omega)
  obtain ⟨y6, hy6⟩ : ∃ W, W = (((y5.setCell ⟨w.heap.size + 2, 0, none⟩ (.int .i64 kc)).setCell ⟨w.heap.size + 2, 1, none⟩ (.int .i64 ic)).setCell ⟨w.heap.size + 2, 2, none⟩ (.string (str lc))) := ⟨_, rfl⟩
  rw [← hy6] at qa qb qc bel
  change wpO _ _ _ _ _ _ _ (((y5.setCell ⟨w.heap.size + 2, 0, none⟩ (.int .i64 kc)).setCell ⟨w.heap.size + 2, 1, none⟩ (.int .i64 ic)).setCell ⟨w.heap.size + 2, 2, none⟩ (.string (str lc)))
  rw [← hy6]
  clear hy6
  try simp only [Act.put, List.setIfInBounds_toArray, List.set_cons_zero, List.set_cons_succ]
  refine t_over (by kernel_rfl) ?_
  obtain ⟨qac0, qac1, qac2⟩ := cells3 qa
  have qal := lt_of_block qa
  obtain ⟨qbc0, qbc1, qbc2⟩ := cells3 qb
  have qbl := lt_of_block qb
  obtain ⟨qcc0, qcc1, qcc2⟩ := cells3 qc
  have qcl := lt_of_block qc
  go_wp2_with fail
  refine (MA _).mono ?_
  rintro e w1 ⟨rfl, g⟩
  clear qac0 qac1 qac2 qal
  replace qa := (g.block _ (lt_of_block qa)).trans qa
  clear qbc0 qbc1 qbc2 qbl
  replace qb := (g.block _ (lt_of_block qb)).trans qb
  clear qcc0 qcc1 qcc2 qcl
  replace qc := (g.block _ (lt_of_block qc)).trans qc
  replace bel := chain bel g
  clear g
  obtain ⟨qac0, qac1, qac2⟩ := cells3 qa
  have qal := lt_of_block qa
  obtain ⟨qbc0, qbc1, qbc2⟩ := cells3 qb
  have qbl := lt_of_block qb
  obtain ⟨qcc0, qcc1, qcc2⟩ := cells3 qc
  have qcl := lt_of_block qc
  go_wp2_with fail
  refine (MB _).mono ?_
  rintro e w2 ⟨rfl, g⟩
  clear qac0 qac1 qac2 qal
  replace qa := (g.block _ (lt_of_block qa)).trans qa
  clear qbc0 qbc1 qbc2 qbl
  replace qb := (g.block _ (lt_of_block qb)).trans qb
  clear qcc0 qcc1 qcc2 qcl
  replace qc := (g.block _ (lt_of_block qc)).trans qc
  replace bel := chain bel g
  clear g
  obtain ⟨qac0, qac1, qac2⟩ := cells3 qa
  have qal := lt_of_block qa
  obtain ⟨qbc0, qbc1, qbc2⟩ := cells3 qb
  have qbl := lt_of_block qb
  obtain ⟨qcc0, qcc1, qcc2⟩ := cells3 qc
  have qcl := lt_of_block qc
  go_wp2_with fail
  refine (MC _).mono ?_
  rintro e w3 ⟨rfl, g⟩
  clear qac0 qac1 qac2 qal
  replace qa := (g.block _ (lt_of_block qa)).trans qa
  clear qbc0 qbc1 qbc2 qbl
  replace qb := (g.block _ (lt_of_block qb)).trans qb
  clear qcc0 qcc1 qcc2 qcl
  replace qc := (g.block _ (lt_of_block qc)).trans qc
  replace bel := chain bel g
  clear g
  obtain ⟨qac0, qac1, qac2⟩ := cells3 qa
  have qal := lt_of_block qa
  obtain ⟨qbc0, qbc1, qbc2⟩ := cells3 qb
  have qbl := lt_of_block qb
  obtain ⟨qcc0, qcc1, qcc2⟩ := cells3 qc
  have qcl := lt_of_block qc
  go_wp2_with fail
  refine (AW _).mono ?_
  rintro e w4 ⟨rfl, g⟩
  clear qac0 qac1 qac2 qal
  replace qa := (g.block _ (lt_of_block qa)).trans qa
  clear qbc0 qbc1 qbc2 qbl
  replace qb := (g.block _ (lt_of_block qb)).trans qb
  clear qcc0 qcc1 qcc2 qcl
  replace qc := (g.block _ (lt_of_block qc)).trans qc
  replace bel := chain bel g
  clear g
  obtain ⟨qac0, qac1, qac2⟩ := cells3 qa
  have qal := lt_of_block qa
  obtain ⟨qbc0, qbc1, qbc2⟩ := cells3 qb
  have qbl := lt_of_block qb
  obtain ⟨qcc0, qcc1, qcc2⟩ := cells3 qc
  have qcl := lt_of_block qc
  go_wp2_with fail
  go_ret
  exact ⟨rfl, bel⟩
set_option maxRecDepth 100000 in
set_option maxHeartbeats 8000000 in
theorem ord_lt0 (ka ia : Int) (sa : List UInt8) (kb ib : Int) (sb : List UInt8) (kc ic : Int) (sc : List UInt8) (la lb lc : List UInt8) (w : World)
    (FA : ∀ w, Calls Try.prog 10 #[.agg #[.int .i64 ka, .int .i64 ia, .string (str sa)]] w fun e w' => e = .returned (.agg #[.int .i64 ka, .int .i64 ia, .string (str la)]) ∧ Below w.heap.size w w')
    (FB : ∀ w, Calls Try.prog 10 #[.agg #[.int .i64 kb, .int .i64 ib, .string (str sb)]] w fun e w' => e = .returned (.agg #[.int .i64 kb, .int .i64 ib, .string (str lb)]) ∧ Below w.heap.size w w')
    (FC : ∀ w, Calls Try.prog 10 #[.agg #[.int .i64 kc, .int .i64 ic, .string (str sc)]] w fun e w' => e = .returned (.agg #[.int .i64 kc, .int .i64 ic, .string (str lc)]) ∧ Below w.heap.size w w')
    (MA : ∀ w, Calls Try.prog 14 #[.agg #[.int .i64 ka, .int .i64 ia, .string (str la)]] w fun e w' => e = .returned (.bool true) ∧ Below w.heap.size w w')
    (MB : ∀ w, Calls Try.prog 14 #[.agg #[.int .i64 kb, .int .i64 ib, .string (str lb)]] w fun e w' => e = .returned (.bool true) ∧ Below w.heap.size w w')
    (MC : ∀ w, Calls Try.prog 14 #[.agg #[.int .i64 kc, .int .i64 ic, .string (str lc)]] w fun e w' => e = .returned (.bool true) ∧ Below w.heap.size w w')
    (LAB : ∀ w, Calls Try.prog 15 #[.agg #[.int .i64 ka, .int .i64 ia, .string (str la)], .agg #[.int .i64 kb, .int .i64 ib, .string (str lb)]] w fun e w' => e = .returned (.bool true) ∧ Below w.heap.size w w')
    (LBA : ∀ w, Calls Try.prog 15 #[.agg #[.int .i64 kb, .int .i64 ib, .string (str lb)], .agg #[.int .i64 ka, .int .i64 ia, .string (str la)]] w fun e w' => e = .returned (.bool false) ∧ Below w.heap.size w w')
    (LBC : ∀ w, Calls Try.prog 15 #[.agg #[.int .i64 kb, .int .i64 ib, .string (str lb)], .agg #[.int .i64 kc, .int .i64 ic, .string (str lc)]] w fun e w' => e = .returned (.bool false) ∧ Below w.heap.size w w')
    (NE : ∀ w, (binOp .eql 23 (.agg #[.int .i64 ka, .int .i64 ia, .string (str la)]) (.agg #[.int .i64 kb, .int .i64 ib, .string (str lb)])).run Try.prog w = .ok (.bool false) w) :
    Calls Try.prog 8 #[.agg #[.int .i64 ka, .int .i64 ia, .string (str sa)], .agg #[.int .i64 kb, .int .i64 ib, .string (str sb)], .agg #[.int .i64 kc, .int .i64 ic, .string (str sc)]] w fun e w' => e = .returned (.bool true) ∧ Below w.heap.size w w' := by
  have AW := awake_any
  obtain ⟨qa, qb, qc⟩ := three_allocs w (.cells #[.int .i64 ka, .int .i64 ia, .string (str sa)] 23) (.cells #[.int .i64 kb, .int .i64 ib, .string (str sb)] 23) (.cells #[.int .i64 kc, .int .i64 ic, .string (str sc)] 23)
  have bel : Below w.heap.size w (((w.alloc (.cells #[.int .i64 ka, .int .i64 ia, .string (str sa)] 23)).alloc (.cells #[.int .i64 kb, .int .i64 ib, .string (str sb)] 23)).alloc (.cells #[.int .i64 kc, .int .i64 ic, .string (str sc)] 23)) := (((Below.refl _ w).alloc (Nat.le_refl _) _).alloc (by simp) _).alloc (by simp; omega) _
  go_enter Try.func8, Try.ntmps8
  go_wp2_with fail
  obtain ⟨W0, hW0⟩ : ∃ W0, W0 = ((w.alloc (.cells #[.int .i64 ka, .int .i64 ia, .string (str sa)] 23)).alloc (.cells #[.int .i64 kb, .int .i64 ib, .string (str sb)] 23)).alloc (.cells #[.int .i64 kc, .int .i64 ic, .string (str sc)] 23) := ⟨_, rfl⟩
  rw [← hW0] at qa qb qc bel ⊢
  clear hW0
  have bel := below_drewN (k := 1) bel
  refine t_start 6 (by kernel_rfl) ?_
  refine t_take (i := 0) (d := (some 8)) (v := ?_) rfl rfl (by kernel_rfl) (fun _ _ _ h => h) (by rfl) (fun w' hb' => ?_) ?_
  rotate_left
  · have zz := (hb'.block _ (lt_of_block qa)).trans qa; obtain ⟨c0, c1, c2⟩ := cells3 zz; (try go_simp); (try with_reducible rfl)
  try simp only [Act.put, List.setIfInBounds_toArray, List.set_cons_zero, List.set_cons_succ]
  refine t_take (i := 2) (d := (some 10)) (v := ?_) rfl rfl (by kernel_rfl) (fun _ _ _ h => h) (by rfl) (fun w' hb' => ?_) ?_
  rotate_left
  · have zz := (hb'.block _ (lt_of_block qb)).trans qb; obtain ⟨c0, c1, c2⟩ := cells3 zz; (try go_simp); (try with_reducible rfl)
  try simp only [Act.put, List.setIfInBounds_toArray, List.set_cons_zero, List.set_cons_succ]
  refine t_take (i := 4) (d := (some 12)) (v := ?_) rfl rfl (by kernel_rfl) (fun _ _ _ h => h) (by rfl) (fun w' hb' => ?_) ?_
  rotate_left
  · have zz := (hb'.block _ (lt_of_block qc)).trans qc; obtain ⟨c0, c1, c2⟩ := cells3 zz; (try go_simp); (try with_reducible rfl)
  try simp only [Act.put, List.setIfInBounds_toArray, List.set_cons_zero, List.set_cons_succ]
  refine t_run (i := 1) rfl (by kernel_rfl) (by kernel_rfl) (by rfl) (fun K hK => ?_)
  go_simp
  refine (FA _).mono ?_
  rintro e y1 ⟨rfl, gg⟩
  have qa := (gg.block _ (lt_of_block qa)).trans qa
  have qb := (gg.block _ (lt_of_block qb)).trans qb
  have qc := (gg.block _ (lt_of_block qc)).trans qc
  have bel := chain bel gg
  refine hK _ _ ⟨gg, ?_⟩
  clear hK K gg
  try simp only [Act.put, List.setIfInBounds_toArray, List.set_cons_zero, List.set_cons_succ]
  refine t_run (i := 3) rfl (by kernel_rfl) (by kernel_rfl) (by rfl) (fun K hK => ?_)
  go_simp
  refine (FB _).mono ?_
  rintro e y2 ⟨rfl, gg⟩
  have qa := (gg.block _ (lt_of_block qa)).trans qa
  have qb := (gg.block _ (lt_of_block qb)).trans qb
  have qc := (gg.block _ (lt_of_block qc)).trans qc
  have bel := chain bel gg
  refine hK _ _ ⟨gg, ?_⟩
  clear hK K gg
  try simp only [Act.put, List.setIfInBounds_toArray, List.set_cons_zero, List.set_cons_succ]
  refine t_run (i := 5) rfl (by kernel_rfl) (by kernel_rfl) (by rfl) (fun K hK => ?_)
  go_simp
  refine (FC _).mono ?_
  rintro e y3 ⟨rfl, gg⟩
  have qa := (gg.block _ (lt_of_block qa)).trans qa
  have qb := (gg.block _ (lt_of_block qb)).trans qb
  have qc := (gg.block _ (lt_of_block qc)).trans qc
  have bel := chain bel gg
  refine hK _ _ ⟨gg, ?_⟩
  clear hK K gg
  try simp only [Act.put, List.setIfInBounds_toArray, List.set_cons_zero, List.set_cons_succ]
  refine t_into ?_
  refine t_tail (i := 6) rfl (by kernel_rfl) (by kernel_rfl) (by rfl) (fun K hK => ?_)
  obtain ⟨c0, c1, c2⟩ := cells3 qa
  have cf := frozen3 qa
  have hl := lt_of_block qa
  go_simp
  refine hK _ _ ?_
  clear hK K c0 c1 c2 cf hl
  have qa := put3 (.int .i64 ka) (.int .i64 ia) (.string (str la)) qa
  have qb := put3_old (B := w.heap.size) (u0 := .int .i64 ka) (u1 := .int .i64 ia) (u2 := .string (str la)) qb (by omega)
  have qc := put3_old (B := w.heap.size) (u0 := .int .i64 ka) (u1 := .int .i64 ia) (u2 := .string (str la)) qc (by omega)
  have bel := put3_below (B := w.heap.size) (u0 := .int .i64 ka) (u1 := .int .i64 ia) (u2 := .string (str la)) bel (by omega)
  obtain ⟨y4, hy4⟩ : ∃ W, W = (((y3.setCell ⟨w.heap.size, 0, none⟩ (.int .i64 ka)).setCell ⟨w.heap.size, 1, none⟩ (.int .i64 ia)).setCell ⟨w.heap.size, 2, none⟩ (.string (str la))) := ⟨_, rfl⟩
  rw [← hy4] at qa qb qc bel
  change wpO _ _ _ _ _ _ _ (((y3.setCell ⟨w.heap.size, 0, none⟩ (.int .i64 ka)).setCell ⟨w.heap.size, 1, none⟩ (.int .i64 ia)).setCell ⟨w.heap.size, 2, none⟩ (.string (str la)))
  rw [← hy4]
  clear hy4
  try simp only [Act.put, List.setIfInBounds_toArray, List.set_cons_zero, List.set_cons_succ]
  refine t_tail (i := 7) rfl (by kernel_rfl) (by kernel_rfl) (by rfl) (fun K hK => ?_)
  obtain ⟨c0, c1, c2⟩ := cells3 qb
  have cf := frozen3 qb
  have hl := lt_of_block qb
  go_simp
  refine hK _ _ ?_
  clear hK K c0 c1 c2 cf hl
  have qa := put3_old (B := w.heap.size + 1) (u0 := .int .i64 kb) (u1 := .int .i64 ib) (u2 := .string (str lb)) qa (by omega)
  have qb := put3 (.int .i64 kb) (.int .i64 ib) (.string (str lb)) qb
  have qc := put3_old (B := w.heap.size + 1) (u0 := .int .i64 kb) (u1 := .int .i64 ib) (u2 := .string (str lb)) qc (by omega)
  have bel := put3_below (B := w.heap.size + 1) (u0 := .int .i64 kb) (u1 := .int .i64 ib) (u2 := .string (str lb)) bel (by omega)
  obtain ⟨y5, hy5⟩ : ∃ W, W = (((y4.setCell ⟨w.heap.size + 1, 0, none⟩ (.int .i64 kb)).setCell ⟨w.heap.size + 1, 1, none⟩ (.int .i64 ib)).setCell ⟨w.heap.size + 1, 2, none⟩ (.string (str lb))) := ⟨_, rfl⟩
  rw [← hy5] at qa qb qc bel
  change wpO _ _ _ _ _ _ _ (((y4.setCell ⟨w.heap.size + 1, 0, none⟩ (.int .i64 kb)).setCell ⟨w.heap.size + 1, 1, none⟩ (.int .i64 ib)).setCell ⟨w.heap.size + 1, 2, none⟩ (.string (str lb)))
  rw [← hy5]
  clear hy5
  try simp only [Act.put, List.setIfInBounds_toArray, List.set_cons_zero, List.set_cons_succ]
  refine t_tail (i := 8) rfl (by kernel_rfl) (by kernel_rfl) (by rfl) (fun K hK => ?_)
  obtain ⟨c0, c1, c2⟩ := cells3 qc
  have cf := frozen3 qc
  have hl := lt_of_block qc
  go_simp
  refine hK _ _ ?_
  clear hK K c0 c1 c2 cf hl
  have qa := put3_old (B := w.heap.size + 2) (u0 := .int .i64 kc) (u1 := .int .i64 ic) (u2 := .string (str lc)) qa (by omega)
  have qb := put3_old (B := w.heap.size + 2) (u0 := .int .i64 kc) (u1 := .int .i64 ic) (u2 := .string (str lc)) qb (by omega)
  have qc := put3 (.int .i64 kc) (.int .i64 ic) (.string (str lc)) qc
  have bel := put3_below (B := w.heap.size + 2) (u0 := .int .i64 kc) (u1 := .int .i64 ic) (u2 := .string (str lc)) bel (by omega)
  obtain ⟨y6, hy6⟩ : ∃ W, W = (((y5.setCell ⟨w.heap.size + 2, 0, none⟩ (.int .i64 kc)).setCell ⟨w.heap.size + 2, 1, none⟩ (.int .i64 ic)).setCell ⟨w.heap.size + 2, 2, none⟩ (.string (str lc))) := ⟨_, rfl⟩
  rw [← hy6] at qa qb qc bel
  change wpO _ _ _ _ _ _ _ (((y5.setCell ⟨w.heap.size + 2, 0, none⟩ (.int .i64 kc)).setCell ⟨w.heap.size + 2, 1, none⟩ (.int .i64 ic)).setCell ⟨w.heap.size + 2, 2, none⟩ (.string (str lc)))
  rw [← hy6]
  clear hy6
  try simp only [Act.put, List.setIfInBounds_toArray, List.set_cons_zero, List.set_cons_succ]
  refine t_over (by kernel_rfl) ?_
  obtain ⟨qac0, qac1, qac2⟩ := cells3 qa
  have qal := lt_of_block qa
  obtain ⟨qbc0, qbc1, qbc2⟩ := cells3 qb
  have qbl := lt_of_block qb
  obtain ⟨qcc0, qcc1, qcc2⟩ := cells3 qc
  have qcl := lt_of_block qc
  go_wp2_with fail
  refine (MA _).mono ?_
  rintro e w1 ⟨rfl, g⟩
  clear qac0 qac1 qac2 qal
  replace qa := (g.block _ (lt_of_block qa)).trans qa
  clear qbc0 qbc1 qbc2 qbl
  replace qb := (g.block _ (lt_of_block qb)).trans qb
  clear qcc0 qcc1 qcc2 qcl
  replace qc := (g.block _ (lt_of_block qc)).trans qc
  replace bel := chain bel g
  clear g
  obtain ⟨qac0, qac1, qac2⟩ := cells3 qa
  have qal := lt_of_block qa
  obtain ⟨qbc0, qbc1, qbc2⟩ := cells3 qb
  have qbl := lt_of_block qb
  obtain ⟨qcc0, qcc1, qcc2⟩ := cells3 qc
  have qcl := lt_of_block qc
  go_wp2_with fail
  refine (MB _).mono ?_
  rintro e w2 ⟨rfl, g⟩
  clear qac0 qac1 qac2 qal
  replace qa := (g.block _ (lt_of_block qa)).trans qa
  clear qbc0 qbc1 qbc2 qbl
  replace qb := (g.block _ (lt_of_block qb)).trans qb
  clear qcc0 qcc1 qcc2 qcl
  replace qc := (g.block _ (lt_of_block qc)).trans qc
  replace bel := chain bel g
  clear g
  obtain ⟨qac0, qac1, qac2⟩ := cells3 qa
  have qal := lt_of_block qa
  obtain ⟨qbc0, qbc1, qbc2⟩ := cells3 qb
  have qbl := lt_of_block qb
  obtain ⟨qcc0, qcc1, qcc2⟩ := cells3 qc
  have qcl := lt_of_block qc
  go_wp2_with fail
  refine (MC _).mono ?_
  rintro e w3 ⟨rfl, g⟩
  clear qac0 qac1 qac2 qal
  replace qa := (g.block _ (lt_of_block qa)).trans qa
  clear qbc0 qbc1 qbc2 qbl
  replace qb := (g.block _ (lt_of_block qb)).trans qb
  clear qcc0 qcc1 qcc2 qcl
  replace qc := (g.block _ (lt_of_block qc)).trans qc
  replace bel := chain bel g
  clear g
  obtain ⟨qac0, qac1, qac2⟩ := cells3 qa
  have qal := lt_of_block qa
  obtain ⟨qbc0, qbc1, qbc2⟩ := cells3 qb
  have qbl := lt_of_block qb
  obtain ⟨qcc0, qcc1, qcc2⟩ := cells3 qc
  have qcl := lt_of_block qc
  go_wp2_with fail
  refine (LAB _).mono ?_
  rintro e w4 ⟨rfl, g⟩
  clear qac0 qac1 qac2 qal
  replace qa := (g.block _ (lt_of_block qa)).trans qa
  clear qbc0 qbc1 qbc2 qbl
  replace qb := (g.block _ (lt_of_block qb)).trans qb
  clear qcc0 qcc1 qcc2 qcl
  replace qc := (g.block _ (lt_of_block qc)).trans qc
  replace bel := chain bel g
  clear g
  obtain ⟨qac0, qac1, qac2⟩ := cells3 qa
  have qal := lt_of_block qa
  obtain ⟨qbc0, qbc1, qbc2⟩ := cells3 qb
  have qbl := lt_of_block qb
  obtain ⟨qcc0, qcc1, qcc2⟩ := cells3 qc
  have qcl := lt_of_block qc
  go_wp2_with fail
  refine (LBA _).mono ?_
  rintro e w5 ⟨rfl, g⟩
  clear qac0 qac1 qac2 qal
  replace qa := (g.block _ (lt_of_block qa)).trans qa
  clear qbc0 qbc1 qbc2 qbl
  replace qb := (g.block _ (lt_of_block qb)).trans qb
  clear qcc0 qcc1 qcc2 qcl
  replace qc := (g.block _ (lt_of_block qc)).trans qc
  replace bel := chain bel g
  clear g
  obtain ⟨qac0, qac1, qac2⟩ := cells3 qa
  have qal := lt_of_block qa
  obtain ⟨qbc0, qbc1, qbc2⟩ := cells3 qb
  have qbl := lt_of_block qb
  obtain ⟨qcc0, qcc1, qcc2⟩ := cells3 qc
  have qcl := lt_of_block qc
  go_wp2_with fail
  refine (LAB _).mono ?_
  rintro e w6 ⟨rfl, g⟩
  clear qac0 qac1 qac2 qal
  replace qa := (g.block _ (lt_of_block qa)).trans qa
  clear qbc0 qbc1 qbc2 qbl
  replace qb := (g.block _ (lt_of_block qb)).trans qb
  clear qcc0 qcc1 qcc2 qcl
  replace qc := (g.block _ (lt_of_block qc)).trans qc
  replace bel := chain bel g
  clear g
  obtain ⟨qac0, qac1, qac2⟩ := cells3 qa
  have qal := lt_of_block qa
  obtain ⟨qbc0, qbc1, qbc2⟩ := cells3 qb
  have qbl := lt_of_block qb
  obtain ⟨qcc0, qcc1, qcc2⟩ := cells3 qc
  have qcl := lt_of_block qc
  go_wp2_with fail
  refine (LBC _).mono ?_
  rintro e w7 ⟨rfl, g⟩
  clear qac0 qac1 qac2 qal
  replace qa := (g.block _ (lt_of_block qa)).trans qa
  clear qbc0 qbc1 qbc2 qbl
  replace qb := (g.block _ (lt_of_block qb)).trans qb
  clear qcc0 qcc1 qcc2 qcl
  replace qc := (g.block _ (lt_of_block qc)).trans qc
  replace bel := chain bel g
  clear g
  obtain ⟨qac0, qac1, qac2⟩ := cells3 qa
  have qal := lt_of_block qa
  obtain ⟨qbc0, qbc1, qbc2⟩ := cells3 qb
  have qbl := lt_of_block qb
  obtain ⟨qcc0, qcc1, qcc2⟩ := cells3 qc
  have qcl := lt_of_block qc
  go_wp2_with fail
  refine (AW _).mono ?_
  rintro e w8 ⟨rfl, g⟩
  clear qac0 qac1 qac2 qal
  replace qa := (g.block _ (lt_of_block qa)).trans qa
  clear qbc0 qbc1 qbc2 qbl
  replace qb := (g.block _ (lt_of_block qb)).trans qb
  clear qcc0 qcc1 qcc2 qcl
  replace qc := (g.block _ (lt_of_block qc)).trans qc
  replace bel := chain bel g
  clear g
  obtain ⟨qac0, qac1, qac2⟩ := cells3 qa
  have qal := lt_of_block qa
  obtain ⟨qbc0, qbc1, qbc2⟩ := cells3 qb
  have qbl := lt_of_block qb
  obtain ⟨qcc0, qcc1, qcc2⟩ := cells3 qc
  have qcl := lt_of_block qc
  go_wp2_with fail
  go_ret
  exact ⟨rfl, bel⟩
set_option maxRecDepth 100000 in
set_option maxHeartbeats 8000000 in
theorem ord_lt1 (ka ia : Int) (sa : List UInt8) (kb ib : Int) (sb : List UInt8) (kc ic : Int) (sc : List UInt8) (la lb lc : List UInt8) (w : World)
    (FA : ∀ w, Calls Try.prog 10 #[.agg #[.int .i64 ka, .int .i64 ia, .string (str sa)]] w fun e w' => e = .returned (.agg #[.int .i64 ka, .int .i64 ia, .string (str la)]) ∧ Below w.heap.size w w')
    (FB : ∀ w, Calls Try.prog 10 #[.agg #[.int .i64 kb, .int .i64 ib, .string (str sb)]] w fun e w' => e = .returned (.agg #[.int .i64 kb, .int .i64 ib, .string (str lb)]) ∧ Below w.heap.size w w')
    (FC : ∀ w, Calls Try.prog 10 #[.agg #[.int .i64 kc, .int .i64 ic, .string (str sc)]] w fun e w' => e = .returned (.agg #[.int .i64 kc, .int .i64 ic, .string (str lc)]) ∧ Below w.heap.size w w')
    (MA : ∀ w, Calls Try.prog 14 #[.agg #[.int .i64 ka, .int .i64 ia, .string (str la)]] w fun e w' => e = .returned (.bool true) ∧ Below w.heap.size w w')
    (MB : ∀ w, Calls Try.prog 14 #[.agg #[.int .i64 kb, .int .i64 ib, .string (str lb)]] w fun e w' => e = .returned (.bool true) ∧ Below w.heap.size w w')
    (MC : ∀ w, Calls Try.prog 14 #[.agg #[.int .i64 kc, .int .i64 ic, .string (str lc)]] w fun e w' => e = .returned (.bool true) ∧ Below w.heap.size w w')
    (LAB : ∀ w, Calls Try.prog 15 #[.agg #[.int .i64 ka, .int .i64 ia, .string (str la)], .agg #[.int .i64 kb, .int .i64 ib, .string (str lb)]] w fun e w' => e = .returned (.bool true) ∧ Below w.heap.size w w')
    (LBA : ∀ w, Calls Try.prog 15 #[.agg #[.int .i64 kb, .int .i64 ib, .string (str lb)], .agg #[.int .i64 ka, .int .i64 ia, .string (str la)]] w fun e w' => e = .returned (.bool false) ∧ Below w.heap.size w w')
    (LBC : ∀ w, Calls Try.prog 15 #[.agg #[.int .i64 kb, .int .i64 ib, .string (str lb)], .agg #[.int .i64 kc, .int .i64 ic, .string (str lc)]] w fun e w' => e = .returned (.bool true) ∧ Below w.heap.size w w')
    (LAC : ∀ w, Calls Try.prog 15 #[.agg #[.int .i64 ka, .int .i64 ia, .string (str la)], .agg #[.int .i64 kc, .int .i64 ic, .string (str lc)]] w fun e w' => e = .returned (.bool true) ∧ Below w.heap.size w w')
    (NE : ∀ w, (binOp .eql 23 (.agg #[.int .i64 ka, .int .i64 ia, .string (str la)]) (.agg #[.int .i64 kb, .int .i64 ib, .string (str lb)])).run Try.prog w = .ok (.bool false) w) :
    Calls Try.prog 8 #[.agg #[.int .i64 ka, .int .i64 ia, .string (str sa)], .agg #[.int .i64 kb, .int .i64 ib, .string (str sb)], .agg #[.int .i64 kc, .int .i64 ic, .string (str sc)]] w fun e w' => e = .returned (.bool true) ∧ Below w.heap.size w w' := by
  have AW := awake_any
  obtain ⟨qa, qb, qc⟩ := three_allocs w (.cells #[.int .i64 ka, .int .i64 ia, .string (str sa)] 23) (.cells #[.int .i64 kb, .int .i64 ib, .string (str sb)] 23) (.cells #[.int .i64 kc, .int .i64 ic, .string (str sc)] 23)
  have bel : Below w.heap.size w (((w.alloc (.cells #[.int .i64 ka, .int .i64 ia, .string (str sa)] 23)).alloc (.cells #[.int .i64 kb, .int .i64 ib, .string (str sb)] 23)).alloc (.cells #[.int .i64 kc, .int .i64 ic, .string (str sc)] 23)) := (((Below.refl _ w).alloc (Nat.le_refl _) _).alloc (by simp) _).alloc (by simp; omega) _
  go_enter Try.func8, Try.ntmps8
  go_wp2_with fail
  obtain ⟨W0, hW0⟩ : ∃ W0, W0 = ((w.alloc (.cells #[.int .i64 ka, .int .i64 ia, .string (str sa)] 23)).alloc (.cells #[.int .i64 kb, .int .i64 ib, .string (str sb)] 23)).alloc (.cells #[.int .i64 kc, .int .i64 ic, .string (str sc)] 23) := ⟨_, rfl⟩
  rw [← hW0] at qa qb qc bel ⊢
  clear hW0
  have bel := below_drewN (k := 1) bel
  refine t_start 6 (by kernel_rfl) ?_
  refine t_take (i := 0) (d := (some 8)) (v := ?_) rfl rfl (by kernel_rfl) (fun _ _ _ h => h) (by rfl) (fun w' hb' => ?_) ?_
  rotate_left
  · have zz := (hb'.block _ (lt_of_block qa)).trans qa; obtain ⟨c0, c1, c2⟩ := cells3 zz; (try go_simp); (try with_reducible rfl)
  try simp only [Act.put, List.setIfInBounds_toArray, List.set_cons_zero, List.set_cons_succ]
  refine t_take (i := 2) (d := (some 10)) (v := ?_) rfl rfl (by kernel_rfl) (fun _ _ _ h => h) (by rfl) (fun w' hb' => ?_) ?_
  rotate_left
  · have zz := (hb'.block _ (lt_of_block qb)).trans qb; obtain ⟨c0, c1, c2⟩ := cells3 zz; (try go_simp); (try with_reducible rfl)
  try simp only [Act.put, List.setIfInBounds_toArray, List.set_cons_zero, List.set_cons_succ]
  refine t_take (i := 4) (d := (some 12)) (v := ?_) rfl rfl (by kernel_rfl) (fun _ _ _ h => h) (by rfl) (fun w' hb' => ?_) ?_
  rotate_left
  · have zz := (hb'.block _ (lt_of_block qc)).trans qc; obtain ⟨c0, c1, c2⟩ := cells3 zz; (try go_simp); (try with_reducible rfl)
  try simp only [Act.put, List.setIfInBounds_toArray, List.set_cons_zero, List.set_cons_succ]
  refine t_run (i := 1) rfl (by kernel_rfl) (by kernel_rfl) (by rfl) (fun K hK => ?_)
  go_simp
  refine (FA _).mono ?_
  rintro e y1 ⟨rfl, gg⟩
  have qa := (gg.block _ (lt_of_block qa)).trans qa
  have qb := (gg.block _ (lt_of_block qb)).trans qb
  have qc := (gg.block _ (lt_of_block qc)).trans qc
  have bel := chain bel gg
  refine hK _ _ ⟨gg, ?_⟩
  clear hK K gg
  try simp only [Act.put, List.setIfInBounds_toArray, List.set_cons_zero, List.set_cons_succ]
  refine t_run (i := 3) rfl (by kernel_rfl) (by kernel_rfl) (by rfl) (fun K hK => ?_)
  go_simp
  refine (FB _).mono ?_
  rintro e y2 ⟨rfl, gg⟩
  have qa := (gg.block _ (lt_of_block qa)).trans qa
  have qb := (gg.block _ (lt_of_block qb)).trans qb
  have qc := (gg.block _ (lt_of_block qc)).trans qc
  have bel := chain bel gg
  refine hK _ _ ⟨gg, ?_⟩
  clear hK K gg
  try simp only [Act.put, List.setIfInBounds_toArray, List.set_cons_zero, List.set_cons_succ]
  refine t_run (i := 5) rfl (by kernel_rfl) (by kernel_rfl) (by rfl) (fun K hK => ?_)
  go_simp
  refine (FC _).mono ?_
  rintro e y3 ⟨rfl, gg⟩
  have qa := (gg.block _ (lt_of_block qa)).trans qa
  have qb := (gg.block _ (lt_of_block qb)).trans qb
  have qc := (gg.block _ (lt_of_block qc)).trans qc
  have bel := chain bel gg
  refine hK _ _ ⟨gg, ?_⟩
  clear hK K gg
  try simp only [Act.put, List.setIfInBounds_toArray, List.set_cons_zero, List.set_cons_succ]
  refine t_into ?_
  refine t_tail (i := 6) rfl (by kernel_rfl) (by kernel_rfl) (by rfl) (fun K hK => ?_)
  obtain ⟨c0, c1, c2⟩ := cells3 qa
  have cf := frozen3 qa
  have hl := lt_of_block qa
  go_simp
  refine hK _ _ ?_
  clear hK K c0 c1 c2 cf hl
  have qa := put3 (.int .i64 ka) (.int .i64 ia) (.string (str la)) qa
  have qb := put3_old (B := w.heap.size) (u0 := .int .i64 ka) (u1 := .int .i64 ia) (u2 := .string (str la)) qb (by omega)
  have qc := put3_old (B := w.heap.size) (u0 := .int .i64 ka) (u1 := .int .i64 ia) (u2 := .string (str la)) qc (by omega)
  have bel := put3_below (B := w.heap.size) (u0 := .int .i64 ka) (u1 := .int .i64 ia) (u2 := .string (str la)) bel (by omega)
  obtain ⟨y4, hy4⟩ : ∃ W, W = (((y3.setCell ⟨w.heap.size, 0, none⟩ (.int .i64 ka)).setCell ⟨w.heap.size, 1, none⟩ (.int .i64 ia)).setCell ⟨w.heap.size, 2, none⟩ (.string (str la))) := ⟨_, rfl⟩
  rw [← hy4] at qa qb qc bel
  change wpO _ _ _ _ _ _ _ (((y3.setCell ⟨w.heap.size, 0, none⟩ (.int .i64 ka)).setCell ⟨w.heap.size, 1, none⟩ (.int .i64 ia)).setCell ⟨w.heap.size, 2, none⟩ (.string (str la)))
  rw [← hy4]
  clear hy4
  try simp only [Act.put, List.setIfInBounds_toArray, List.set_cons_zero, List.set_cons_succ]
  refine t_tail (i := 7) rfl (by kernel_rfl) (by kernel_rfl) (by rfl) (fun K hK => ?_)
  obtain ⟨c0, c1, c2⟩ := cells3 qb
  have cf := frozen3 qb
  have hl := lt_of_block qb
  go_simp
  refine hK _ _ ?_
  clear hK K c0 c1 c2 cf hl
  have qa := put3_old (B := w.heap.size + 1) (u0 := .int .i64 kb) (u1 := .int .i64 ib) (u2 := .string (str lb)) qa (by omega)
  have qb := put3 (.int .i64 kb) (.int .i64 ib) (.string (str lb)) qb
  have qc := put3_old (B := w.heap.size + 1) (u0 := .int .i64 kb) (u1 := .int .i64 ib) (u2 := .string (str lb)) qc (by omega)
  have bel := put3_below (B := w.heap.size + 1) (u0 := .int .i64 kb) (u1 := .int .i64 ib) (u2 := .string (str lb)) bel (by omega)
  obtain ⟨y5, hy5⟩ : ∃ W, W = (((y4.setCell ⟨w.heap.size + 1, 0, none⟩ (.int .i64 kb)).setCell ⟨w.heap.size + 1, 1, none⟩ (.int .i64 ib)).setCell ⟨w.heap.size + 1, 2, none⟩ (.string (str lb))) := ⟨_, rfl⟩
  rw [← hy5] at qa qb qc bel
  change wpO _ _ _ _ _ _ _ (((y4.setCell ⟨w.heap.size + 1, 0, none⟩ (.int .i64 kb)).setCell ⟨w.heap.size + 1, 1, none⟩ (.int .i64 ib)).setCell ⟨w.heap.size + 1, 2, none⟩ (.string (str lb)))
  rw [← hy5]
  clear hy5
  try simp only [Act.put, List.setIfInBounds_toArray, List.set_cons_zero, List.set_cons_succ]
  refine t_tail (i := 8) rfl (by kernel_rfl) (by kernel_rfl) (by rfl) (fun K hK => ?_)
  obtain ⟨c0, c1, c2⟩ := cells3 qc
  have cf := frozen3 qc
  have hl := lt_of_block qc
  go_simp
  refine hK _ _ ?_
  clear hK K c0 c1 c2 cf hl
  have qa := put3_old (B := w.heap.size + 2) (u0 := .int .i64 kc) (u1 := .int .i64 ic) (u2 := .string (str lc)) qa (by omega)
  have qb := put3_old (B := w.heap.size + 2) (u0 := .int .i64 kc) (u1 := .int .i64 ic) (u2 := .string (str lc)) qb (by omega)
  have qc := put3 (.int .i64 kc) (.int .i64 ic) (.string (str lc)) qc
  have bel := put3_below (B := w.heap.size + 2) (u0 := .int .i64 kc) (u1 := .int .i64 ic) (u2 := .string (str lc)) bel (by omega)
  obtain ⟨y6, hy6⟩ : ∃ W, W = (((y5.setCell ⟨w.heap.size + 2, 0, none⟩ (.int .i64 kc)).setCell ⟨w.heap.size + 2, 1, none⟩ (.int .i64 ic)).setCell ⟨w.heap.size + 2, 2, none⟩ (.string (str lc))) := ⟨_, rfl⟩
  rw [← hy6] at qa qb qc bel
  change wpO _ _ _ _ _ _ _ (((y5.setCell ⟨w.heap.size + 2, 0, none⟩ (.int .i64 kc)).setCell ⟨w.heap.size + 2, 1, none⟩ (.int .i64 ic)).setCell ⟨w.heap.size + 2, 2, none⟩ (.string (str lc)))
  rw [← hy6]
  clear hy6
  try simp only [Act.put, List.setIfInBounds_toArray, List.set_cons_zero, List.set_cons_succ]
  refine t_over (by kernel_rfl) ?_
  obtain ⟨qac0, qac1, qac2⟩ := cells3 qa
  have qal := lt_of_block qa
  obtain ⟨qbc0, qbc1, qbc2⟩ := cells3 qb
  have qbl := lt_of_block qb
  obtain ⟨qcc0, qcc1, qcc2⟩ := cells3 qc
  have qcl := lt_of_block qc
  go_wp2_with fail
  refine (MA _).mono ?_
  rintro e w1 ⟨rfl, g⟩
  clear qac0 qac1 qac2 qal
  replace qa := (g.block _ (lt_of_block qa)).trans qa
  clear qbc0 qbc1 qbc2 qbl
  replace qb := (g.block _ (lt_of_block qb)).trans qb
  clear qcc0 qcc1 qcc2 qcl
  replace qc := (g.block _ (lt_of_block qc)).trans qc
  replace bel := chain bel g
  clear g
  obtain ⟨qac0, qac1, qac2⟩ := cells3 qa
  have qal := lt_of_block qa
  obtain ⟨qbc0, qbc1, qbc2⟩ := cells3 qb
  have qbl := lt_of_block qb
  obtain ⟨qcc0, qcc1, qcc2⟩ := cells3 qc
  have qcl := lt_of_block qc
  go_wp2_with fail
  refine (MB _).mono ?_
  rintro e w2 ⟨rfl, g⟩
  clear qac0 qac1 qac2 qal
  replace qa := (g.block _ (lt_of_block qa)).trans qa
  clear qbc0 qbc1 qbc2 qbl
  replace qb := (g.block _ (lt_of_block qb)).trans qb
  clear qcc0 qcc1 qcc2 qcl
  replace qc := (g.block _ (lt_of_block qc)).trans qc
  replace bel := chain bel g
  clear g
  obtain ⟨qac0, qac1, qac2⟩ := cells3 qa
  have qal := lt_of_block qa
  obtain ⟨qbc0, qbc1, qbc2⟩ := cells3 qb
  have qbl := lt_of_block qb
  obtain ⟨qcc0, qcc1, qcc2⟩ := cells3 qc
  have qcl := lt_of_block qc
  go_wp2_with fail
  refine (MC _).mono ?_
  rintro e w3 ⟨rfl, g⟩
  clear qac0 qac1 qac2 qal
  replace qa := (g.block _ (lt_of_block qa)).trans qa
  clear qbc0 qbc1 qbc2 qbl
  replace qb := (g.block _ (lt_of_block qb)).trans qb
  clear qcc0 qcc1 qcc2 qcl
  replace qc := (g.block _ (lt_of_block qc)).trans qc
  replace bel := chain bel g
  clear g
  obtain ⟨qac0, qac1, qac2⟩ := cells3 qa
  have qal := lt_of_block qa
  obtain ⟨qbc0, qbc1, qbc2⟩ := cells3 qb
  have qbl := lt_of_block qb
  obtain ⟨qcc0, qcc1, qcc2⟩ := cells3 qc
  have qcl := lt_of_block qc
  go_wp2_with fail
  refine (LAB _).mono ?_
  rintro e w4 ⟨rfl, g⟩
  clear qac0 qac1 qac2 qal
  replace qa := (g.block _ (lt_of_block qa)).trans qa
  clear qbc0 qbc1 qbc2 qbl
  replace qb := (g.block _ (lt_of_block qb)).trans qb
  clear qcc0 qcc1 qcc2 qcl
  replace qc := (g.block _ (lt_of_block qc)).trans qc
  replace bel := chain bel g
  clear g
  obtain ⟨qac0, qac1, qac2⟩ := cells3 qa
  have qal := lt_of_block qa
  obtain ⟨qbc0, qbc1, qbc2⟩ := cells3 qb
  have qbl := lt_of_block qb
  obtain ⟨qcc0, qcc1, qcc2⟩ := cells3 qc
  have qcl := lt_of_block qc
  go_wp2_with fail
  refine (LBA _).mono ?_
  rintro e w5 ⟨rfl, g⟩
  clear qac0 qac1 qac2 qal
  replace qa := (g.block _ (lt_of_block qa)).trans qa
  clear qbc0 qbc1 qbc2 qbl
  replace qb := (g.block _ (lt_of_block qb)).trans qb
  clear qcc0 qcc1 qcc2 qcl
  replace qc := (g.block _ (lt_of_block qc)).trans qc
  replace bel := chain bel g
  clear g
  obtain ⟨qac0, qac1, qac2⟩ := cells3 qa
  have qal := lt_of_block qa
  obtain ⟨qbc0, qbc1, qbc2⟩ := cells3 qb
  have qbl := lt_of_block qb
  obtain ⟨qcc0, qcc1, qcc2⟩ := cells3 qc
  have qcl := lt_of_block qc
  go_wp2_with fail
  refine (LAB _).mono ?_
  rintro e w6 ⟨rfl, g⟩
  clear qac0 qac1 qac2 qal
  replace qa := (g.block _ (lt_of_block qa)).trans qa
  clear qbc0 qbc1 qbc2 qbl
  replace qb := (g.block _ (lt_of_block qb)).trans qb
  clear qcc0 qcc1 qcc2 qcl
  replace qc := (g.block _ (lt_of_block qc)).trans qc
  replace bel := chain bel g
  clear g
  obtain ⟨qac0, qac1, qac2⟩ := cells3 qa
  have qal := lt_of_block qa
  obtain ⟨qbc0, qbc1, qbc2⟩ := cells3 qb
  have qbl := lt_of_block qb
  obtain ⟨qcc0, qcc1, qcc2⟩ := cells3 qc
  have qcl := lt_of_block qc
  go_wp2_with fail
  refine (LBC _).mono ?_
  rintro e w7 ⟨rfl, g⟩
  clear qac0 qac1 qac2 qal
  replace qa := (g.block _ (lt_of_block qa)).trans qa
  clear qbc0 qbc1 qbc2 qbl
  replace qb := (g.block _ (lt_of_block qb)).trans qb
  clear qcc0 qcc1 qcc2 qcl
  replace qc := (g.block _ (lt_of_block qc)).trans qc
  replace bel := chain bel g
  clear g
  obtain ⟨qac0, qac1, qac2⟩ := cells3 qa
  have qal := lt_of_block qa
  obtain ⟨qbc0, qbc1, qbc2⟩ := cells3 qb
  have qbl := lt_of_block qb
  obtain ⟨qcc0, qcc1, qcc2⟩ := cells3 qc
  have qcl := lt_of_block qc
  go_wp2_with fail
  refine (LAC _).mono ?_
  rintro e w8 ⟨rfl, g⟩
  clear qac0 qac1 qac2 qal
  replace qa := (g.block _ (lt_of_block qa)).trans qa
  clear qbc0 qbc1 qbc2 qbl
  replace qb := (g.block _ (lt_of_block qb)).trans qb
  clear qcc0 qcc1 qcc2 qcl
  replace qc := (g.block _ (lt_of_block qc)).trans qc
  replace bel := chain bel g
  clear g
  obtain ⟨qac0, qac1, qac2⟩ := cells3 qa
  have qal := lt_of_block qa
  obtain ⟨qbc0, qbc1, qbc2⟩ := cells3 qb
  have qbl := lt_of_block qb
  obtain ⟨qcc0, qcc1, qcc2⟩ := cells3 qc
  have qcl := lt_of_block qc
  go_wp2_with fail
  refine (AW _).mono ?_
  rintro e w9 ⟨rfl, g⟩
  clear qac0 qac1 qac2 qal
  replace qa := (g.block _ (lt_of_block qa)).trans qa
  clear qbc0 qbc1 qbc2 qbl
  replace qb := (g.block _ (lt_of_block qb)).trans qb
  clear qcc0 qcc1 qcc2 qcl
  replace qc := (g.block _ (lt_of_block qc)).trans qc
  replace bel := chain bel g
  clear g
  obtain ⟨qac0, qac1, qac2⟩ := cells3 qa
  have qal := lt_of_block qa
  obtain ⟨qbc0, qbc1, qbc2⟩ := cells3 qb
  have qbl := lt_of_block qb
  obtain ⟨qcc0, qcc1, qcc2⟩ := cells3 qc
  have qcl := lt_of_block qc
  go_wp2_with fail
  go_ret
  exact ⟨rfl, bel⟩
set_option maxRecDepth 100000 in
set_option maxHeartbeats 8000000 in
theorem ord_eq (ka ia : Int) (sa : List UInt8) (kb ib : Int) (sb : List UInt8) (kc ic : Int) (sc : List UInt8) (la lb lc : List UInt8) (w : World)
    (FA : ∀ w, Calls Try.prog 10 #[.agg #[.int .i64 ka, .int .i64 ia, .string (str sa)]] w fun e w' => e = .returned (.agg #[.int .i64 ka, .int .i64 ia, .string (str la)]) ∧ Below w.heap.size w w')
    (FB : ∀ w, Calls Try.prog 10 #[.agg #[.int .i64 kb, .int .i64 ib, .string (str sb)]] w fun e w' => e = .returned (.agg #[.int .i64 kb, .int .i64 ib, .string (str lb)]) ∧ Below w.heap.size w w')
    (FC : ∀ w, Calls Try.prog 10 #[.agg #[.int .i64 kc, .int .i64 ic, .string (str sc)]] w fun e w' => e = .returned (.agg #[.int .i64 kc, .int .i64 ic, .string (str lc)]) ∧ Below w.heap.size w w')
    (MA : ∀ w, Calls Try.prog 14 #[.agg #[.int .i64 ka, .int .i64 ia, .string (str la)]] w fun e w' => e = .returned (.bool true) ∧ Below w.heap.size w w')
    (MB : ∀ w, Calls Try.prog 14 #[.agg #[.int .i64 kb, .int .i64 ib, .string (str lb)]] w fun e w' => e = .returned (.bool true) ∧ Below w.heap.size w w')
    (MC : ∀ w, Calls Try.prog 14 #[.agg #[.int .i64 kc, .int .i64 ic, .string (str lc)]] w fun e w' => e = .returned (.bool true) ∧ Below w.heap.size w w')
    (LAB : ∀ w, Calls Try.prog 15 #[.agg #[.int .i64 ka, .int .i64 ia, .string (str la)], .agg #[.int .i64 kb, .int .i64 ib, .string (str lb)]] w fun e w' => e = .returned (.bool false) ∧ Below w.heap.size w w')
    (LBA : ∀ w, Calls Try.prog 15 #[.agg #[.int .i64 kb, .int .i64 ib, .string (str lb)], .agg #[.int .i64 ka, .int .i64 ia, .string (str la)]] w fun e w' => e = .returned (.bool false) ∧ Below w.heap.size w w')
    (NE : ∀ w, (binOp .eql 23 (.agg #[.int .i64 ka, .int .i64 ia, .string (str la)]) (.agg #[.int .i64 kb, .int .i64 ib, .string (str lb)])).run Try.prog w = .ok (.bool true) w) :
    Calls Try.prog 8 #[.agg #[.int .i64 ka, .int .i64 ia, .string (str sa)], .agg #[.int .i64 kb, .int .i64 ib, .string (str sb)], .agg #[.int .i64 kc, .int .i64 ic, .string (str sc)]] w fun e w' => e = .returned (.bool true) ∧ Below w.heap.size w w' := by
  have AW := awake_any
  obtain ⟨qa, qb, qc⟩ := three_allocs w (.cells #[.int .i64 ka, .int .i64 ia, .string (str sa)] 23) (.cells #[.int .i64 kb, .int .i64 ib, .string (str sb)] 23) (.cells #[.int .i64 kc, .int .i64 ic, .string (str sc)] 23)
  have bel : Below w.heap.size w (((w.alloc (.cells #[.int .i64 ka, .int .i64 ia, .string (str sa)] 23)).alloc (.cells #[.int .i64 kb, .int .i64 ib, .string (str sb)] 23)).alloc (.cells #[.int .i64 kc, .int .i64 ic, .string (str sc)] 23)) := (((Below.refl _ w).alloc (Nat.le_refl _) _).alloc (by simp) _).alloc (by simp; omega) _
  go_enter Try.func8, Try.ntmps8
  go_wp2_with fail
  obtain ⟨W0, hW0⟩ : ∃ W0, W0 = ((w.alloc (.cells #[.int .i64 ka, .int .i64 ia, .string (str sa)] 23)).alloc (.cells #[.int .i64 kb, .int .i64 ib, .string (str sb)] 23)).alloc (.cells #[.int .i64 kc, .int .i64 ic, .string (str sc)] 23) := ⟨_, rfl⟩
  rw [← hW0] at qa qb qc bel ⊢
  clear hW0
  have bel := below_drewN (k := 1) bel
  refine t_start 6 (by kernel_rfl) ?_
  refine t_take (i := 0) (d := (some 8)) (v := ?_) rfl rfl (by kernel_rfl) (fun _ _ _ h => h) (by rfl) (fun w' hb' => ?_) ?_
  rotate_left
  · have zz := (hb'.block _ (lt_of_block qa)).trans qa; obtain ⟨c0, c1, c2⟩ := cells3 zz; (try go_simp); (try with_reducible rfl)
  try simp only [Act.put, List.setIfInBounds_toArray, List.set_cons_zero, List.set_cons_succ]
  refine t_take (i := 2) (d := (some 10)) (v := ?_) rfl rfl (by kernel_rfl) (fun _ _ _ h => h) (by rfl) (fun w' hb' => ?_) ?_
  rotate_left
  · have zz := (hb'.block _ (lt_of_block qb)).trans qb; obtain ⟨c0, c1, c2⟩ := cells3 zz; (try go_simp); (try with_reducible rfl)
  try simp only [Act.put, List.setIfInBounds_toArray, List.set_cons_zero, List.set_cons_succ]
  refine t_take (i := 4) (d := (some 12)) (v := ?_) rfl rfl (by kernel_rfl) (fun _ _ _ h => h) (by rfl) (fun w' hb' => ?_) ?_
  rotate_left
  · have zz := (hb'.block _ (lt_of_block qc)).trans qc; obtain ⟨c0, c1, c2⟩ := cells3 zz; (try go_simp); (try with_reducible rfl)
  try simp only [Act.put, List.setIfInBounds_toArray, List.set_cons_zero, List.set_cons_succ]
  refine t_run (i := 1) rfl (by kernel_rfl) (by kernel_rfl) (by rfl) (fun K hK => ?_)
  go_simp
  refine (FA _).mono ?_
  rintro e y1 ⟨rfl, gg⟩
  have qa := (gg.block _ (lt_of_block qa)).trans qa
  have qb := (gg.block _ (lt_of_block qb)).trans qb
  have qc := (gg.block _ (lt_of_block qc)).trans qc
  have bel := chain bel gg
  refine hK _ _ ⟨gg, ?_⟩
  clear hK K gg
  try simp only [Act.put, List.setIfInBounds_toArray, List.set_cons_zero, List.set_cons_succ]
  refine t_run (i := 3) rfl (by kernel_rfl) (by kernel_rfl) (by rfl) (fun K hK => ?_)
  go_simp
  refine (FB _).mono ?_
  rintro e y2 ⟨rfl, gg⟩
  have qa := (gg.block _ (lt_of_block qa)).trans qa
  have qb := (gg.block _ (lt_of_block qb)).trans qb
  have qc := (gg.block _ (lt_of_block qc)).trans qc
  have bel := chain bel gg
  refine hK _ _ ⟨gg, ?_⟩
  clear hK K gg
  try simp only [Act.put, List.setIfInBounds_toArray, List.set_cons_zero, List.set_cons_succ]
  refine t_run (i := 5) rfl (by kernel_rfl) (by kernel_rfl) (by rfl) (fun K hK => ?_)
  go_simp
  refine (FC _).mono ?_
  rintro e y3 ⟨rfl, gg⟩
  have qa := (gg.block _ (lt_of_block qa)).trans qa
  have qb := (gg.block _ (lt_of_block qb)).trans qb
  have qc := (gg.block _ (lt_of_block qc)).trans qc
  have bel := chain bel gg
  refine hK _ _ ⟨gg, ?_⟩
  clear hK K gg
  try simp only [Act.put, List.setIfInBounds_toArray, List.set_cons_zero, List.set_cons_succ]
  refine t_into ?_
  refine t_tail (i := 6) rfl (by kernel_rfl) (by kernel_rfl) (by rfl) (fun K hK => ?_)
  obtain ⟨c0, c1, c2⟩ := cells3 qa
  have cf := frozen3 qa
  have hl := lt_of_block qa
  go_simp
  refine hK _ _ ?_
  clear hK K c0 c1 c2 cf hl
  have qa := put3 (.int .i64 ka) (.int .i64 ia) (.string (str la)) qa
  have qb := put3_old (B := w.heap.size) (u0 := .int .i64 ka) (u1 := .int .i64 ia) (u2 := .string (str la)) qb (by omega)
  have qc := put3_old (B := w.heap.size) (u0 := .int .i64 ka) (u1 := .int .i64 ia) (u2 := .string (str la)) qc (by omega)
  have bel := put3_below (B := w.heap.size) (u0 := .int .i64 ka) (u1 := .int .i64 ia) (u2 := .string (str la)) bel (by omega)
  obtain ⟨y4, hy4⟩ : ∃ W, W = (((y3.setCell ⟨w.heap.size, 0, none⟩ (.int .i64 ka)).setCell ⟨w.heap.size, 1, none⟩ (.int .i64 ia)).setCell ⟨w.heap.size, 2, none⟩ (.string (str la))) := ⟨_, rfl⟩
  rw [← hy4] at qa qb qc bel
  change wpO _ _ _ _ _ _ _ (((y3.setCell ⟨w.heap.size, 0, none⟩ (.int .i64 ka)).setCell ⟨w.heap.size, 1, none⟩ (.int .i64 ia)).setCell ⟨w.heap.size, 2, none⟩ (.string (str la)))
  rw [← hy4]
  clear hy4
  try simp only [Act.put, List.setIfInBounds_toArray, List.set_cons_zero, List.set_cons_succ]
  refine t_tail (i := 7) rfl (by kernel_rfl) (by kernel_rfl) (by rfl) (fun K hK => ?_)
  obtain ⟨c0, c1, c2⟩ := cells3 qb
  have cf := frozen3 qb
  have hl := lt_of_block qb
  go_simp
  refine hK _ _ ?_
  clear hK K c0 c1 c2 cf hl
  have qa := put3_old (B := w.heap.size + 1) (u0 := .int .i64 kb) (u1 := .int .i64 ib) (u2 := .string (str lb)) qa (by omega)
  have qb := put3 (.int .i64 kb) (.int .i64 ib) (.string (str lb)) qb
  have qc := put3_old (B := w.heap.size + 1) (u0 := .int .i64 kb) (u1 := .int .i64 ib) (u2 := .string (str lb)) qc (by omega)
  have bel := put3_below (B := w.heap.size + 1) (u0 := .int .i64 kb) (u1 := .int .i64 ib) (u2 := .string (str lb)) bel (by omega)
  obtain ⟨y5, hy5⟩ : ∃ W, W = (((y4.setCell ⟨w.heap.size + 1, 0, none⟩ (.int .i64 kb)).setCell ⟨w.heap.size + 1, 1, none⟩ (.int .i64 ib)).setCell ⟨w.heap.size + 1, 2, none⟩ (.string (str lb))) := ⟨_, rfl⟩
  rw [← hy5] at qa qb qc bel
  change wpO _ _ _ _ _ _ _ (((y4.setCell ⟨w.heap.size + 1, 0, none⟩ (.int .i64 kb)).setCell ⟨w.heap.size + 1, 1, none⟩ (.int .i64 ib)).setCell ⟨w.heap.size + 1, 2, none⟩ (.string (str lb)))
  rw [← hy5]
  clear hy5
  try simp only [Act.put, List.setIfInBounds_toArray, List.set_cons_zero, List.set_cons_succ]
  refine t_tail (i := 8) rfl (by kernel_rfl) (by kernel_rfl) (by rfl) (fun K hK => ?_)
  obtain ⟨c0, c1, c2⟩ := cells3 qc
  have cf := frozen3 qc
  have hl := lt_of_block qc
  go_simp
  refine hK _ _ ?_
  clear hK K c0 c1 c2 cf hl
  have qa := put3_old (B := w.heap.size + 2) (u0 := .int .i64 kc) (u1 := .int .i64 ic) (u2 := .string (str lc)) qa (by omega)
  have qb := put3_old (B := w.heap.size + 2) (u0 := .int .i64 kc) (u1 := .int .i64 ic) (u2 := .string (str lc)) qb (by omega)
  have qc := put3 (.int .i64 kc) (.int .i64 ic) (.string (str lc)) qc
  have bel := put3_below (B := w.heap.size + 2) (u0 := .int .i64 kc) (u1 := .int .i64 ic) (u2 := .string (str lc)) bel (by omega)
  obtain ⟨y6, hy6⟩ : ∃ W, W = (((y5.setCell ⟨w.heap.size + 2, 0, none⟩ (.int .i64 kc)).setCell ⟨w.heap.size + 2, 1, none⟩ (.int .i64 ic)).setCell ⟨w.heap.size + 2, 2, none⟩ (.string (str lc))) := ⟨_, rfl⟩
  rw [← hy6] at qa qb qc bel
  change wpO _ _ _ _ _ _ _ (((y5.setCell ⟨w.heap.size + 2, 0, none⟩ (.int .i64 kc)).setCell ⟨w.heap.size + 2, 1, none⟩ (.int .i64 ic)).setCell ⟨w.heap.size + 2, 2, none⟩ (.string (str lc)))
  rw [← hy6]
  clear hy6
  try simp only [Act.put, List.setIfInBounds_toArray, List.set_cons_zero, List.set_cons_succ]
  refine t_over (by kernel_rfl) ?_
  obtain ⟨qac0, qac1, qac2⟩ := cells3 qa
  have qal := lt_of_block qa
  obtain ⟨qbc0, qbc1, qbc2⟩ := cells3 qb
  have qbl := lt_of_block qb
  obtain ⟨qcc0, qcc1, qcc2⟩ := cells3 qc
  have qcl := lt_of_block qc
  go_wp2_with fail
  refine (MA _).mono ?_
  rintro e w1 ⟨rfl, g⟩
  clear qac0 qac1 qac2 qal
  replace qa := (g.block _ (lt_of_block qa)).trans qa
  clear qbc0 qbc1 qbc2 qbl
  replace qb := (g.block _ (lt_of_block qb)).trans qb
  clear qcc0 qcc1 qcc2 qcl
  replace qc := (g.block _ (lt_of_block qc)).trans qc
  replace bel := chain bel g
  clear g
  obtain ⟨qac0, qac1, qac2⟩ := cells3 qa
  have qal := lt_of_block qa
  obtain ⟨qbc0, qbc1, qbc2⟩ := cells3 qb
  have qbl := lt_of_block qb
  obtain ⟨qcc0, qcc1, qcc2⟩ := cells3 qc
  have qcl := lt_of_block qc
  go_wp2_with fail
  refine (MB _).mono ?_
  rintro e w2 ⟨rfl, g⟩
  clear qac0 qac1 qac2 qal
  replace qa := (g.block _ (lt_of_block qa)).trans qa
  clear qbc0 qbc1 qbc2 qbl
  replace qb := (g.block _ (lt_of_block qb)).trans qb
  clear qcc0 qcc1 qcc2 qcl
  replace qc := (g.block _ (lt_of_block qc)).trans qc
  replace bel := chain bel g
  clear g
  obtain ⟨qac0, qac1, qac2⟩ := cells3 qa
  have qal := lt_of_block qa
  obtain ⟨qbc0, qbc1, qbc2⟩ := cells3 qb
  have qbl := lt_of_block qb
  obtain ⟨qcc0, qcc1, qcc2⟩ := cells3 qc
  have qcl := lt_of_block qc
  go_wp2_with fail
  refine (MC _).mono ?_
  rintro e w3 ⟨rfl, g⟩
  clear qac0 qac1 qac2 qal
  replace qa := (g.block _ (lt_of_block qa)).trans qa
  clear qbc0 qbc1 qbc2 qbl
  replace qb := (g.block _ (lt_of_block qb)).trans qb
  clear qcc0 qcc1 qcc2 qcl
  replace qc := (g.block _ (lt_of_block qc)).trans qc
  replace bel := chain bel g
  clear g
  obtain ⟨qac0, qac1, qac2⟩ := cells3 qa
  have qal := lt_of_block qa
  obtain ⟨qbc0, qbc1, qbc2⟩ := cells3 qb
  have qbl := lt_of_block qb
  obtain ⟨qcc0, qcc1, qcc2⟩ := cells3 qc
  have qcl := lt_of_block qc
  go_wp2_with fail
  refine (LAB _).mono ?_
  rintro e w4 ⟨rfl, g⟩
  clear qac0 qac1 qac2 qal
  replace qa := (g.block _ (lt_of_block qa)).trans qa
  clear qbc0 qbc1 qbc2 qbl
  replace qb := (g.block _ (lt_of_block qb)).trans qb
  clear qcc0 qcc1 qcc2 qcl
  replace qc := (g.block _ (lt_of_block qc)).trans qc
  replace bel := chain bel g
  clear g
  obtain ⟨qac0, qac1, qac2⟩ := cells3 qa
  have qal := lt_of_block qa
  obtain ⟨qbc0, qbc1, qbc2⟩ := cells3 qb
  have qbl := lt_of_block qb
  obtain ⟨qcc0, qcc1, qcc2⟩ := cells3 qc
  have qcl := lt_of_block qc
  go_wp2_with fail
  refine (LBA _).mono ?_
  rintro e w5 ⟨rfl, g⟩
  clear qac0 qac1 qac2 qal
  replace qa := (g.block _ (lt_of_block qa)).trans qa
  clear qbc0 qbc1 qbc2 qbl
  replace qb := (g.block _ (lt_of_block qb)).trans qb
  clear qcc0 qcc1 qcc2 qcl
  replace qc := (g.block _ (lt_of_block qc)).trans qc
  replace bel := chain bel g
  clear g
  obtain ⟨qac0, qac1, qac2⟩ := cells3 qa
  have qal := lt_of_block qa
  obtain ⟨qbc0, qbc1, qbc2⟩ := cells3 qb
  have qbl := lt_of_block qb
  obtain ⟨qcc0, qcc1, qcc2⟩ := cells3 qc
  have qcl := lt_of_block qc
  go_wp2_with fail
  refine (LAB _).mono ?_
  rintro e w6 ⟨rfl, g⟩
  clear qac0 qac1 qac2 qal
  replace qa := (g.block _ (lt_of_block qa)).trans qa
  clear qbc0 qbc1 qbc2 qbl
  replace qb := (g.block _ (lt_of_block qb)).trans qb
  clear qcc0 qcc1 qcc2 qcl
  replace qc := (g.block _ (lt_of_block qc)).trans qc
  replace bel := chain bel g
  clear g
  obtain ⟨qac0, qac1, qac2⟩ := cells3 qa
  have qal := lt_of_block qa
  obtain ⟨qbc0, qbc1, qbc2⟩ := cells3 qb
  have qbl := lt_of_block qb
  obtain ⟨qcc0, qcc1, qcc2⟩ := cells3 qc
  have qcl := lt_of_block qc
  go_wp2_with fail
  refine (AW _).mono ?_
  rintro e w7 ⟨rfl, g⟩
  clear qac0 qac1 qac2 qal
  replace qa := (g.block _ (lt_of_block qa)).trans qa
  clear qbc0 qbc1 qbc2 qbl
  replace qb := (g.block _ (lt_of_block qb)).trans qb
  clear qcc0 qcc1 qcc2 qcl
  replace qc := (g.block _ (lt_of_block qc)).trans qc
  replace bel := chain bel g
  clear g
  obtain ⟨qac0, qac1, qac2⟩ := cells3 qa
  have qal := lt_of_block qa
  obtain ⟨qbc0, qbc1, qbc2⟩ := cells3 qb
  have qbl := lt_of_block qb
  obtain ⟨qcc0, qcc1, qcc2⟩ := cells3 qc
  have qcl := lt_of_block qc
  go_wp2_with fail
  go_ret
  exact ⟨rfl, bel⟩
set_option maxRecDepth 100000 in
set_option maxHeartbeats 8000000 in
theorem ord_gt (ka ia : Int) (sa : List UInt8) (kb ib : Int) (sb : List UInt8) (kc ic : Int) (sc : List UInt8) (la lb lc : List UInt8) (w : World)
    (FA : ∀ w, Calls Try.prog 10 #[.agg #[.int .i64 ka, .int .i64 ia, .string (str sa)]] w fun e w' => e = .returned (.agg #[.int .i64 ka, .int .i64 ia, .string (str la)]) ∧ Below w.heap.size w w')
    (FB : ∀ w, Calls Try.prog 10 #[.agg #[.int .i64 kb, .int .i64 ib, .string (str sb)]] w fun e w' => e = .returned (.agg #[.int .i64 kb, .int .i64 ib, .string (str lb)]) ∧ Below w.heap.size w w')
    (FC : ∀ w, Calls Try.prog 10 #[.agg #[.int .i64 kc, .int .i64 ic, .string (str sc)]] w fun e w' => e = .returned (.agg #[.int .i64 kc, .int .i64 ic, .string (str lc)]) ∧ Below w.heap.size w w')
    (MA : ∀ w, Calls Try.prog 14 #[.agg #[.int .i64 ka, .int .i64 ia, .string (str la)]] w fun e w' => e = .returned (.bool true) ∧ Below w.heap.size w w')
    (MB : ∀ w, Calls Try.prog 14 #[.agg #[.int .i64 kb, .int .i64 ib, .string (str lb)]] w fun e w' => e = .returned (.bool true) ∧ Below w.heap.size w w')
    (MC : ∀ w, Calls Try.prog 14 #[.agg #[.int .i64 kc, .int .i64 ic, .string (str lc)]] w fun e w' => e = .returned (.bool true) ∧ Below w.heap.size w w')
    (LAB : ∀ w, Calls Try.prog 15 #[.agg #[.int .i64 ka, .int .i64 ia, .string (str la)], .agg #[.int .i64 kb, .int .i64 ib, .string (str lb)]] w fun e w' => e = .returned (.bool false) ∧ Below w.heap.size w w')
    (LBA : ∀ w, Calls Try.prog 15 #[.agg #[.int .i64 kb, .int .i64 ib, .string (str lb)], .agg #[.int .i64 ka, .int .i64 ia, .string (str la)]] w fun e w' => e = .returned (.bool true) ∧ Below w.heap.size w w')
    (NE : ∀ w, (binOp .eql 23 (.agg #[.int .i64 ka, .int .i64 ia, .string (str la)]) (.agg #[.int .i64 kb, .int .i64 ib, .string (str lb)])).run Try.prog w = .ok (.bool false) w) :
    Calls Try.prog 8 #[.agg #[.int .i64 ka, .int .i64 ia, .string (str sa)], .agg #[.int .i64 kb, .int .i64 ib, .string (str sb)], .agg #[.int .i64 kc, .int .i64 ic, .string (str sc)]] w fun e w' => e = .returned (.bool true) ∧ Below w.heap.size w w' := by
  have AW := awake_any
  obtain ⟨qa, qb, qc⟩ := three_allocs w (.cells #[.int .i64 ka, .int .i64 ia, .string (str sa)] 23) (.cells #[.int .i64 kb, .int .i64 ib, .string (str sb)] 23) (.cells #[.int .i64 kc, .int .i64 ic, .string (str sc)] 23)
  have bel : Below w.heap.size w (((w.alloc (.cells #[.int .i64 ka, .int .i64 ia, .string (str sa)] 23)).alloc (.cells #[.int .i64 kb, .int .i64 ib, .string (str sb)] 23)).alloc (.cells #[.int .i64 kc, .int .i64 ic, .string (str sc)] 23)) := (((Below.refl _ w).alloc (Nat.le_refl _) _).alloc (by simp) _).alloc (by simp; omega) _
  go_enter Try.func8, Try.ntmps8
  go_wp2_with fail
  obtain ⟨W0, hW0⟩ : ∃ W0, W0 = ((w.alloc (.cells #[.int .i64 ka, .int .i64 ia, .string (str sa)] 23)).alloc (.cells #[.int .i64 kb, .int .i64 ib, .string (str sb)] 23)).alloc (.cells #[.int .i64 kc, .int .i64 ic, .string (str sc)] 23) := ⟨_, rfl⟩
  rw [← hW0] at qa qb qc bel ⊢
  clear hW0
  have bel := below_drewN (k := 1) bel
  refine t_start 6 (by kernel_rfl) ?_
  refine t_take (i := 0) (d := (some 8)) (v := ?_) rfl rfl (by kernel_rfl) (fun _ _ _ h => h) (by rfl) (fun w' hb' => ?_) ?_
  rotate_left
  · have zz := (hb'.block _ (lt_of_block qa)).trans qa; obtain ⟨c0, c1, c2⟩ := cells3 zz; (try go_simp); (try with_reducible rfl)
  try simp only [Act.put, List.setIfInBounds_toArray, List.set_cons_zero, List.set_cons_succ]
  refine t_take (i := 2) (d := (some 10)) (v := ?_) rfl rfl (by kernel_rfl) (fun _ _ _ h => h) (by rfl) (fun w' hb' => ?_) ?_
  rotate_left
  · have zz := (hb'.block _ (lt_of_block qb)).trans qb; obtain ⟨c0, c1, c2⟩ := cells3 zz; (try go_simp); (try with_reducible rfl)
  try simp only [Act.put, List.setIfInBounds_toArray, List.set_cons_zero, List.set_cons_succ]
  refine t_take (i := 4) (d := (some 12)) (v := ?_) rfl rfl (by kernel_rfl) (fun _ _ _ h => h) (by rfl) (fun w' hb' => ?_) ?_
  rotate_left
  · have zz := (hb'.block _ (lt_of_block qc)).trans qc; obtain ⟨c0, c1, c2⟩ := cells3 zz; (try go_simp); (try with_reducible rfl)
  try simp only [Act.put, List.setIfInBounds_toArray, List.set_cons_zero, List.set_cons_succ]
  refine t_run (i := 1) rfl (by kernel_rfl) (by kernel_rfl) (by rfl) (fun K hK => ?_)
  go_simp
  refine (FA _).mono ?_
  rintro e y1 ⟨rfl, gg⟩
  have qa := (gg.block _ (lt_of_block qa)).trans qa
  have qb := (gg.block _ (lt_of_block qb)).trans qb
  have qc := (gg.block _ (lt_of_block qc)).trans qc
  have bel := chain bel gg
  refine hK _ _ ⟨gg, ?_⟩
  clear hK K gg
  try simp only [Act.put, List.setIfInBounds_toArray, List.set_cons_zero, List.set_cons_succ]
  refine t_run (i := 3) rfl (by kernel_rfl) (by kernel_rfl) (by rfl) (fun K hK => ?_)
  go_simp
  refine (FB _).mono ?_
  rintro e y2 ⟨rfl, gg⟩
  have qa := (gg.block _ (lt_of_block qa)).trans qa
  have qb := (gg.block _ (lt_of_block qb)).trans qb
  have qc := (gg.block _ (lt_of_block qc)).trans qc
  have bel := chain bel gg
  refine hK _ _ ⟨gg, ?_⟩
  clear hK K gg
  try simp only [Act.put, List.setIfInBounds_toArray, List.set_cons_zero, List.set_cons_succ]
  refine t_run (i := 5) rfl (by kernel_rfl) (by kernel_rfl) (by rfl) (fun K hK => ?_)
  go_simp
  refine (FC _).mono ?_
  rintro e y3 ⟨rfl, gg⟩
  have qa := (gg.block _ (lt_of_block qa)).trans qa
  have qb := (gg.block _ (lt_of_block qb)).trans qb
  have qc := (gg.block _ (lt_of_block qc)).trans qc
  have bel := chain bel gg
  refine hK _ _ ⟨gg, ?_⟩
  clear hK K gg
  try simp only [Act.put, List.setIfInBounds_toArray, List.set_cons_zero, List.set_cons_succ]
  refine t_into ?_
  refine t_tail (i := 6) rfl (by kernel_rfl) (by kernel_rfl) (by rfl) (fun K hK => ?_)
  obtain ⟨c0, c1, c2⟩ := cells3 qa
  have cf := frozen3 qa
  have hl := lt_of_block qa
  go_simp
  refine hK _ _ ?_
  clear hK K c0 c1 c2 cf hl
  have qa := put3 (.int .i64 ka) (.int .i64 ia) (.string (str la)) qa
  have qb := put3_old (B := w.heap.size) (u0 := .int .i64 ka) (u1 := .int .i64 ia) (u2 := .string (str la)) qb (by omega)
  have qc := put3_old (B := w.heap.size) (u0 := .int .i64 ka) (u1 := .int .i64 ia) (u2 := .string (str la)) qc (by omega)
  have bel := put3_below (B := w.heap.size) (u0 := .int .i64 ka) (u1 := .int .i64 ia) (u2 := .string (str la)) bel (by omega)
  obtain ⟨y4, hy4⟩ : ∃ W, W = (((y3.setCell ⟨w.heap.size, 0, none⟩ (.int .i64 ka)).setCell ⟨w.heap.size, 1, none⟩ (.int .i64 ia)).setCell ⟨w.heap.size, 2, none⟩ (.string (str la))) := ⟨_, rfl⟩
  rw [← hy4] at qa qb qc bel
  change wpO _ _ _ _ _ _ _ (((y3.setCell ⟨w.heap.size, 0, none⟩ (.int .i64 ka)).setCell ⟨w.heap.size, 1, none⟩ (.int .i64 ia)).setCell ⟨w.heap.size, 2, none⟩ (.string (str la)))
  rw [← hy4]
  clear hy4
  try simp only [Act.put, List.setIfInBounds_toArray, List.set_cons_zero, List.set_cons_succ]
  refine t_tail (i := 7) rfl (by kernel_rfl) (by kernel_rfl) (by rfl) (fun K hK => ?_)
  obtain ⟨c0, c1, c2⟩ := cells3 qb
  have cf := frozen3 qb
  have hl := lt_of_block qb
  go_simp
  refine hK _ _ ?_
  clear hK K c0 c1 c2 cf hl
  have qa := put3_old (B := w.heap.size + 1) (u0 := .int .i64 kb) (u1 := .int .i64 ib) (u2 := .string (str lb)) qa (by omega)
  have qb := put3 (.int .i64 kb) (.int .i64 ib) (.string (str lb)) qb
  have qc := put3_old (B := w.heap.size + 1) (u0 := .int .i64 kb) (u1 := .int .i64 ib) (u2 := .string (str lb)) qc (by omega)
  have bel := put3_below (B := w.heap.size + 1) (u0 := .int .i64 kb) (u1 := .int .i64 ib) (u2 := .string (str lb)) bel (by omega)
  obtain ⟨y5, hy5⟩ : ∃ W, W = (((y4.setCell ⟨w.heap.size + 1, 0, none⟩ (.int .i64 kb)).setCell ⟨w.heap.size + 1, 1, none⟩ (.int .i64 ib)).setCell ⟨w.heap.size + 1, 2, none⟩ (.string (str lb))) := ⟨_, rfl⟩
  rw [← hy5] at qa qb qc bel
  change wpO _ _ _ _ _ _ _ (((y4.setCell ⟨w.heap.size + 1, 0, none⟩ (.int .i64 kb)).setCell ⟨w.heap.size + 1, 1, none⟩ (.int .i64 ib)).setCell ⟨w.heap.size + 1, 2, none⟩ (.string (str lb)))
  rw [← hy5]
  clear hy5
  try simp only [Act.put, List.setIfInBounds_toArray, List.set_cons_zero, List.set_cons_succ]
  refine t_tail (i := 8) rfl (by kernel_rfl) (by kernel_rfl) (by rfl) (fun K hK => ?_)
  obtain ⟨c0, c1, c2⟩ := cells3 qc
  have cf := frozen3 qc
  have hl := lt_of_block qc
  go_simp
  refine hK _ _ ?_
  clear hK K c0 c1 c2 cf hl
  have qa := put3_old (B := w.heap.size + 2) (u0 := .int .i64 kc) (u1 := .int .i64 ic) (u2 := .string (str lc)) qa (by omega)
  have qb := put3_old (B := w.heap.size + 2) (u0 := .int .i64 kc) (u1 := .int .i64 ic) (u2 := .string (str lc)) qb (by omega)
  have qc := put3 (.int .i64 kc) (.int .i64 ic) (.string (str lc)) qc
  have bel := put3_below (B := w.heap.size + 2) (u0 := .int .i64 kc) (u1 := .int .i64 ic) (u2 := .string (str lc)) bel (by omega)
  obtain ⟨y6, hy6⟩ : ∃ W, W = (((y5.setCell ⟨w.heap.size + 2, 0, none⟩ (.int .i64 kc)).setCell ⟨w.heap.size + 2, 1, none⟩ (.int .i64 ic)).setCell ⟨w.heap.size + 2, 2, none⟩ (.string (str lc))) := ⟨_, rfl⟩
  rw [← hy6] at qa qb qc bel
  change wpO _ _ _ _ _ _ _ (((y5.setCell ⟨w.heap.size + 2, 0, none⟩ (.int .i64 kc)).setCell ⟨w.heap.size + 2, 1, none⟩ (.int .i64 ic)).setCell ⟨w.heap.size + 2, 2, none⟩ (.string (str lc)))
  rw [← hy6]
  clear hy6
  try simp only [Act.put, List.setIfInBounds_toArray, List.set_cons_zero, List.set_cons_succ]
  refine t_over (by kernel_rfl) ?_
  obtain ⟨qac0, qac1, qac2⟩ := cells3 qa
  have qal := lt_of_block qa
  obtain ⟨qbc0, qbc1, qbc2⟩ := cells3 qb
  have qbl := lt_of_block qb
  obtain ⟨qcc0, qcc1, qcc2⟩ := cells3 qc
  have qcl := lt_of_block qc
  go_wp2_with fail
  refine (MA _).mono ?_
  rintro e w1 ⟨rfl, g⟩
  clear qac0 qac1 qac2 qal
  replace qa := (g.block _ (lt_of_block qa)).trans qa
  clear qbc0 qbc1 qbc2 qbl
  replace qb := (g.block _ (lt_of_block qb)).trans qb
  clear qcc0 qcc1 qcc2 qcl
  replace qc := (g.block _ (lt_of_block qc)).trans qc
  replace bel := chain bel g
  clear g
  obtain ⟨qac0, qac1, qac2⟩ := cells3 qa
  have qal := lt_of_block qa
  obtain ⟨qbc0, qbc1, qbc2⟩ := cells3 qb
  have qbl := lt_of_block qb
  obtain ⟨qcc0, qcc1, qcc2⟩ := cells3 qc
  have qcl := lt_of_block qc
  go_wp2_with fail
  refine (MB _).mono ?_
  rintro e w2 ⟨rfl, g⟩
  clear qac0 qac1 qac2 qal
  replace qa := (g.block _ (lt_of_block qa)).trans qa
  clear qbc0 qbc1 qbc2 qbl
  replace qb := (g.block _ (lt_of_block qb)).trans qb
  clear qcc0 qcc1 qcc2 qcl
  replace qc := (g.block _ (lt_of_block qc)).trans qc
  replace bel := chain bel g
  clear g
  obtain ⟨qac0, qac1, qac2⟩ := cells3 qa
  have qal := lt_of_block qa
  obtain ⟨qbc0, qbc1, qbc2⟩ := cells3 qb
  have qbl := lt_of_block qb
  obtain ⟨qcc0, qcc1, qcc2⟩ := cells3 qc
  have qcl := lt_of_block qc
  go_wp2_with fail
  refine (MC _).mono ?_
  rintro e w3 ⟨rfl, g⟩
  clear qac0 qac1 qac2 qal
  replace qa := (g.block _ (lt_of_block qa)).trans qa
  clear qbc0 qbc1 qbc2 qbl
  replace qb := (g.block _ (lt_of_block qb)).trans qb
  clear qcc0 qcc1 qcc2 qcl
  replace qc := (g.block _ (lt_of_block qc)).trans qc
  replace bel := chain bel g
  clear g
  obtain ⟨qac0, qac1, qac2⟩ := cells3 qa
  have qal := lt_of_block qa
  obtain ⟨qbc0, qbc1, qbc2⟩ := cells3 qb
  have qbl := lt_of_block qb
  obtain ⟨qcc0, qcc1, qcc2⟩ := cells3 qc
  have qcl := lt_of_block qc
  go_wp2_with fail
  refine (LAB _).mono ?_
  rintro e w4 ⟨rfl, g⟩
  clear qac0 qac1 qac2 qal
  replace qa := (g.block _ (lt_of_block qa)).trans qa
  clear qbc0 qbc1 qbc2 qbl
  replace qb := (g.block _ (lt_of_block qb)).trans qb
  clear qcc0 qcc1 qcc2 qcl
  replace qc := (g.block _ (lt_of_block qc)).trans qc
  replace bel := chain bel g
  clear g
  obtain ⟨qac0, qac1, qac2⟩ := cells3 qa
  have qal := lt_of_block qa
  obtain ⟨qbc0, qbc1, qbc2⟩ := cells3 qb
  have qbl := lt_of_block qb
  obtain ⟨qcc0, qcc1, qcc2⟩ := cells3 qc
  have qcl := lt_of_block qc
  go_wp2_with fail
  refine (LBA _).mono ?_
  rintro e w5 ⟨rfl, g⟩
  clear qac0 qac1 qac2 qal
  replace qa := (g.block _ (lt_of_block qa)).trans qa
  clear qbc0 qbc1 qbc2 qbl
  replace qb := (g.block _ (lt_of_block qb)).trans qb
  clear qcc0 qcc1 qcc2 qcl
  replace qc := (g.block _ (lt_of_block qc)).trans qc
  replace bel := chain bel g
  clear g
  obtain ⟨qac0, qac1, qac2⟩ := cells3 qa
  have qal := lt_of_block qa
  obtain ⟨qbc0, qbc1, qbc2⟩ := cells3 qb
  have qbl := lt_of_block qb
  obtain ⟨qcc0, qcc1, qcc2⟩ := cells3 qc
  have qcl := lt_of_block qc
  go_wp2_with fail
  refine (LAB _).mono ?_
  rintro e w6 ⟨rfl, g⟩
  clear qac0 qac1 qac2 qal
  replace qa := (g.block _ (lt_of_block qa)).trans qa
  clear qbc0 qbc1 qbc2 qbl
  replace qb := (g.block _ (lt_of_block qb)).trans qb
  clear qcc0 qcc1 qcc2 qcl
  replace qc := (g.block _ (lt_of_block qc)).trans qc
  replace bel := chain bel g
  clear g
  obtain ⟨qac0, qac1, qac2⟩ := cells3 qa
  have qal := lt_of_block qa
  obtain ⟨qbc0, qbc1, qbc2⟩ := cells3 qb
  have qbl := lt_of_block qb
  obtain ⟨qcc0, qcc1, qcc2⟩ := cells3 qc
  have qcl := lt_of_block qc
  go_wp2_with fail
  refine (AW _).mono ?_
  rintro e w7 ⟨rfl, g⟩
  clear qac0 qac1 qac2 qal
  replace qa := (g.block _ (lt_of_block qa)).trans qa
  clear qbc0 qbc1 qbc2 qbl
  replace qb := (g.block _ (lt_of_block qb)).trans qb
  clear qcc0 qcc1 qcc2 qcl
  replace qc := (g.block _ (lt_of_block qc)).trans qc
  replace bel := chain bel g
  clear g
  obtain ⟨qac0, qac1, qac2⟩ := cells3 qa
  have qal := lt_of_block qa
  obtain ⟨qbc0, qbc1, qbc2⟩ := cells3 qb
  have qbl := lt_of_block qb
  obtain ⟨qcc0, qcc1, qcc2⟩ := cells3 qc
  have qcl := lt_of_block qc
  go_wp2_with fail
  go_ret
  exact ⟨rfl, bel⟩
end Go.Proofs.Ythakimgpaemfeaa
