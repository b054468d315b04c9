/- The walk of the law SipPairs. Written by wip/tools/gen3l.py. -/
import Derived.Test.YtfejjmodkjpmfaaS03J
namespace Go.Proofs.Ytfejjmodkjpmfaa
open Go.RowKit
set_option linter.unusedVariables false
set_option linter.unusedSimpArgs false
theorem sec_eq (a b : Nat) (w : World) : (binOp .eql 24 (.agg #[.int .u64 (a : Int), .int .u64 (b : Int)]) (.agg #[.int .u64 (a : Int), .int .u64 (b : Int)])).run Try.prog w = .ok (.bool true) w := by
  go_simp
theorem sec_guard : Try.prog.eqGuardType Try.prog.depth 24 = false := by kernel_rfl
theorem sec_eq_op (op : Oper) (a : Act) (x y : Operand) (T' : TypeId) (s1 s2 : Nat) (ho : op.op = .binOp .eql 24 x y T') (hx : a.eval x = .agg #[.int .u64 (s1 : Int), .int .u64 (s2 : Int)]) (hy : a.eval y = .agg #[.int .u64 (s1 : Int), .int .u64 (s2 : Int)]) (w : World) :
    (execOp a.eval op).run Try.prog w = .ok (.value (.bool true)) w := by
  have h := sec_eq s1 s2 w
  simp only [execOp, ho, hx, hy]
  have g := sec_guard
  go_simp
theorem nat_of_i64 (X : Int) (h : (Lit.int .i64 X).wf = true) : ∃ N : Nat, IntKind.u64.wrap X = (N : Int) ∧ N < 18446744073709551616 := by
  refine ⟨(IntKind.u64.wrap X).toNat, ?_, ?_⟩
  · rw [IntKind.wrap_u64]; omega
  · rw [IntKind.wrap_u64]; omega
set_option maxRecDepth 100000 in
set_option maxHeartbeats 2000000 in
theorem pairs_row (k0 k1 : Nat) (X Y : Int) (W : World) (h0 : k0 < 18446744073709551616) (h1 : k1 < 18446744073709551616) (hwX : (Lit.int .i64 X).wf = true) (hwY : (Lit.int .i64 Y).wf = true) :
    Calls Try.prog 5 #[.agg #[.int .u64 (k0 : Int), .int .u64 (k1 : Int)], .int .i64 X, .int .i64 Y] W fun e w' => e = .returned (.bool true) ∧ Below W.heap.size W w' := by
  obtain ⟨F, hX, hF⟩ := nat_of_i64 X hwX
  obtain ⟨T, hY, hT⟩ := nat_of_i64 Y hwY
  have Sp := pair_any k0 k1 h0 h1 X Y F T hX hF hY hT
  have E1 := eight_any X F hX hF
  have E2 := eight_any Y T hY hT
  have St := fun v l hl w hd => reftag_any k0 k1 h0 h1 v l hl w hd
  clear hX hY hF hT hwX hwY h0 h1
  obtain ⟨i0, hi0, hz0, hz1, hz2⟩ := info_parts u8info
  obtain ⟨m, em⟩ : ∃ m, m = e8 F 8 ++ e8 T 8 := ⟨_, rfl⟩
  have hml : m.length = 16 := by rw [em]; simp [e8_len]
  rw [← em] at Sp
  have St1 := fun v w hd => St v m (by omega) w hd
  have St2 := fun v w hd => St v (m ++ [0]) (by simp; omega) w hd
  clear St
  generalize sipN k0 k1 m = s1 at Sp St1
  generalize sipN k0 k1 (m ++ [0]) = s2 at Sp St2
  have EM := Lib.hid em
  clear em
  go_enter Try.func5, Try.ntmps5
  go_wp2_with fail
  have zk : (W.alloc (.cells #[.int .u64 (k0 : Int), .int .u64 (k1 : Int)] 24)).heap[W.heap.size]? = some (.cells #[.int .u64 (k0 : Int), .int .u64 (k1 : Int)] 24 (0, 0)) := heap_alloc_new _ _
  have Bel : Below W.heap.size W (W.alloc (.cells #[.int .u64 (k0 : Int), .int .u64 (k1 : Int)] 24)) := (Below.refl _ _).alloc (Nat.le_refl _) _
  generalize (W.alloc (.cells #[.int .u64 (k0 : Int), .int .u64 (k1 : Int)] 24)) = w0 at zk Bel ⊢
  have ltk := lt_of_block zk
  refine (E1 _).mono ?_
  rintro e w1 ⟨g1, cap1, rfl, o1, b1⟩
  go_wp2_with fail
  refine (E2 _).mono ?_
  rintro e w2 ⟨g2, cap2, rfl, o2, b2⟩
  have o1 := o1.kept (below_grown0 b2) (.inr (by simp [Value.ownBlock]))
  have r2 := own_rd o2
  have B2 : Below w0.heap.size w0 w2 := b1.trans (b2.mono b1.size)
  clear o2 b1 b2
  have l8 := e8_len T 8
  go_wp2_with (at_builtin; refine wpList_app_rd w0 rfl (.tmp 9) (.tmp 11) 25 rfl w0.heap.size 5 i0 (.int .u8 0) 1 Try.underlying25 hi0 hz0 hz1 hz2 rfl _ 8 _ rfl o1 _ (e8 T 8) rfl r2 (by rw [l8]; unfold maxLen; omega) (by rw [l8]; omega) (Nat.le_refl _) B2 ?_; intro v3 w3 o3 B3; clear o1 r2; rw [l8, ← List.map_append, ← EM.out] at o3)
  obtain ⟨g, cap, rfl, hcp1, hcp2⟩ := slice_of_own o3 (by omega)
  have hg := o3.lt g rfl
  have sB := B3.size
  have zk3 : w3.drew.heap[W.heap.size]? = some (.cells #[.int .u64 (k0 : Int), .int .u64 (k1 : Int)] 24 (0, 0)) := (B3.block _ ltk).trans zk
  have hown : w3.drew.ownsRow w0.heap.size 5 1 (.slice (some ⟨g, 0, none⟩) (8 + 8) cap) (8 + 8) (m.map bv) := o3.drew
  have Bw : Below W.heap.size W w3 := Bel.trans (B3.mono Bel.size)
  unfold maxLen at hcp2
  go_wp2_with fail
  have hS : Two w3.drew w3.drew g g := Two.refl _ _ _
  refine gs_start (S := fun w' => Two w3.drew w' g g) (by kernel_rfl) ?_
  refine gs_take (i := 0) (d := (some 13)) (v := ?_) rfl rfl (by kernel_rfl) (fun _ _ _ h => h) (by rfl) hS (fun w' hb' => ?_) ?_
  rotate_left
  · have zz : w'.heap[W.heap.size]? = some (.cells #[.int .u64 (k0 : Int), .int .u64 (k1 : Int)] 24 (0, 0)) := (hb'.block _ (lt_of_block zk3) (by omega) (by omega)).trans zk3; obtain ⟨c0, c1, cf⟩ := block_cells2 zz; (try go_simp); (try with_reducible rfl)
  try simp only [Act.put, List.setIfInBounds_toArray, List.set_cons_zero, List.set_cons_succ]
  refine gs_take (i := 1) (d := (some 14)) (v := ?_) rfl rfl (by kernel_rfl) (fun _ _ _ h => h) (by rfl) hS (fun w' hb' => ?_) ?_
  rotate_left
  · (try go_simp); (try with_reducible rfl)
  try simp only [Act.put, List.setIfInBounds_toArray, List.set_cons_zero, List.set_cons_succ]
  refine gs_take (i := 2) (d := (some 15)) (v := ?_) rfl rfl (by kernel_rfl) (fun _ _ _ h => h) (by rfl) hS (fun w' hb' => ?_) ?_
  rotate_left
  · (try go_simp); (try with_reducible rfl)
  try simp only [Act.put, List.setIfInBounds_toArray, List.set_cons_zero, List.set_cons_succ]
  refine gs_take (i := 4) (d := (some 17)) (v := ?_) rfl rfl (by kernel_rfl) (fun _ _ _ h => h) (by rfl) hS (fun w' hb' => ?_) ?_
  rotate_left
  · have zz : w'.heap[W.heap.size]? = some (.cells #[.int .u64 (k0 : Int), .int .u64 (k1 : Int)] 24 (0, 0)) := (hb'.block _ (lt_of_block zk3) (by omega) (by omega)).trans zk3; obtain ⟨c0, c1, cf⟩ := block_cells2 zz; (try go_simp); (try with_reducible rfl)
  try simp only [Act.put, List.setIfInBounds_toArray, List.set_cons_zero, List.set_cons_succ]
  refine gs_take (i := 5) (d := (some 18)) (v := ?_) rfl rfl (by kernel_rfl) (fun _ _ _ h => h) (by rfl) hS (fun w' hb' => ?_) ?_
  rotate_left
  · (try go_simp); (try with_reducible rfl)
  try simp only [Act.put, List.setIfInBounds_toArray, List.set_cons_zero, List.set_cons_succ]
  refine gs_take (i := 7) (d := (some 20)) (v := ?_) rfl rfl (by kernel_rfl) (fun _ _ _ h => h) (by rfl) hS (fun w' hb' => ?_) ?_
  rotate_left
  · have zz : w'.heap[W.heap.size]? = some (.cells #[.int .u64 (k0 : Int), .int .u64 (k1 : Int)] 24 (0, 0)) := (hb'.block _ (lt_of_block zk3) (by omega) (by omega)).trans zk3; obtain ⟨c0, c1, cf⟩ := block_cells2 zz; (try go_simp); (try with_reducible rfl)
  try simp only [Act.put, List.setIfInBounds_toArray, List.set_cons_zero, List.set_cons_succ]
  refine gs_take (i := 8) (d := (some 21)) (v := ?_) rfl rfl (by kernel_rfl) (fun _ _ _ h => h) (by rfl) hS (fun w' hb' => ?_) ?_
  rotate_left
  · (try go_simp); (try with_reducible rfl)
  try simp only [Act.put, List.setIfInBounds_toArray, List.set_cons_zero, List.set_cons_succ]
  refine gs_run2 (i := 3) (k := 9) rfl rfl (by kernel_rfl) (by rfl) (by rfl) (fun K hK => ?_) (fun K hK => ?_)
  · skip
    go_simp
    refine (Sp _).mono ?_
    rintro e v1 ⟨rfl, gg⟩
    have hS := hS.below gg
    have hown := hown.kept (below_grown0 gg) (.inr (by simp [Value.ownBlock]))
    (try have hz9 := (gg.block _ (lt_of_block hz9)).trans hz9)
    refine hK _ _ ⟨hS, ?_⟩
    clear hK K gg
    try simp only [Act.put, List.setIfInBounds_toArray, List.set_cons_zero, List.set_cons_succ]
    refine gs_run2 (i := 6) (k := 9) rfl rfl (by kernel_rfl) (by rfl) (by rfl) (fun K hK => ?_) (fun K hK => ?_)
    · skip
      go_simp
      refine (St1 _ _ (own_rd hown)).mono ?_
      rintro e v2 ⟨rfl, gg⟩
      have hS := hS.below gg
      have hown := hown.kept (below_grown0 gg) (.inr (by simp [Value.ownBlock]))
      (try have hz9 := (gg.block _ (lt_of_block hz9)).trans hz9)
      refine hK _ _ ⟨hS, ?_⟩
      clear hK K gg
      try simp only [Act.put, List.setIfInBounds_toArray, List.set_cons_zero, List.set_cons_succ]
      refine gs_run (i := 9) rfl (by kernel_rfl) (by rfl) (fun K hK => ?_)
      go_simp
      have hgn : g < v2.heap.size := Nat.lt_of_lt_of_le hg.2 hS.size
      have hS2 : Two w3.drew (World.alloc v2 (.cells #[.int .u8 0] 5)) g g := hS.below ((Below.refl _ _).alloc (Nat.le_refl _) _)
      refine hK _ _ ⟨hS2, ?_⟩
      clear hK K
      obtain ⟨WA3, hWA⟩ : ∃ W, W = World.alloc v2 (.cells #[.int .u8 0] 5) := ⟨_, rfl⟩
      rw [← hWA]
      rw [← hWA] at hS2
      have hS := hS2
      have hz9 : WA3.heap[v2.heap.size]? = some (.cells #[.int .u8 0] 5 (0, 0)) := (by subst hWA; exact heap_alloc_new v2 _)
      have hown : WA3.ownsRow w0.heap.size 5 1 (.slice (some ⟨g, 0, none⟩) (8 + 8) cap) (8 + 8) (m.map bv) := (by subst hWA; exact hown.alloc _)
      generalize v2.heap.size = nb at hz9 hgn ⊢
      clear hWA hS2
      try simp only [Act.put, List.setIfInBounds_toArray, List.set_cons_zero, List.set_cons_succ]
      refine gs_run (i := 10) rfl (by kernel_rfl) (by rfl) (fun K hK => ?_)
      have hcn : WA3.cell? ⟨nb, 0, none⟩ = some (.int .u8 0) := by rw [block_cell hz9]; rfl
      refine wp_append_own WA3 (.tmp 21) (.tmp 22) 25 rfl w0.heap.size 5 i0 (.int .u8 0) 1 1 Try.underlying25 hi0 hz0 hz1 hz2 rfl (by decide) _ (8 + 8) (m.map bv) rfl hown ⟨nb, 0, none⟩ 1 1 [.int .u8 0] rfl rfl (by intro j u hj; match j, hj with | 0, hj => (simp at hj; subst hj; exact hcn) | j + 1, hj => simp at hj) (by intro u hu; simp at hu; subst hu; rfl) (by unfold maxLen; omega) (by omega) (by have := hS.size; have : w0.heap.size ≤ w3.drew.heap.size := sB; omega) ?_
      intro v2 v4 hown2 hgr _
      have hS := hS.grown hgr
      rw [show (m.map bv ++ [Value.int .u8 0]) = (m ++ [0]).map bv from by rw [List.map_append]; rfl] at hown2
      obtain ⟨g2, cp2, rfl, _, _⟩ := slice_of_own hown2 (by omega)
      refine hK _ _ ⟨hS, ?_⟩
      clear hK K hgr hcn hz9 hown
      try simp only [Act.put, List.setIfInBounds_toArray, List.set_cons_zero, List.set_cons_succ]
      refine gs_run (i := 11) rfl (by kernel_rfl) (by rfl) (fun K hK => ?_)
      go_simp
      refine (St2 _ _ (own_rd hown2)).mono ?_
      rintro e v5 ⟨rfl, gg⟩
      have hS := hS.below gg
      refine hK _ _ ⟨hS, ?_⟩
      clear hK K gg
      try simp only [Act.put, List.setIfInBounds_toArray, List.set_cons_zero, List.set_cons_succ]
      refine gs_run (i := 12) rfl (by kernel_rfl) (by rfl) (fun K hK => ?_)
      go_simp
      refine hK _ _ ⟨hS, ?_⟩
      clear hK K
      try simp only [Act.put, List.setIfInBounds_toArray, List.set_cons_zero, List.set_cons_succ]
      refine gs_take (i := 13) (d := (some 26)) (v := ?_) rfl rfl (by kernel_rfl) (fun _ _ _ h => h) (by rfl) hS (fun w' hb' => ?_) ?_
      rotate_left
      · (refine sec_eq_op _ _ (.tmp 16) (.tmp 25) 24 s1 s2 ?_ ?_ ?_ w' <;> rfl); (try go_simp); (try with_reducible rfl)
      try simp only [Act.put, List.setIfInBounds_toArray, List.set_cons_zero, List.set_cons_succ]
      refine gs_take (i := 14) (d := (some 27)) (v := ?_) rfl rfl (by kernel_rfl) (fun _ _ _ h => h) (by rfl) hS (fun w' hb' => ?_) ?_
      rotate_left
      · (try go_simp); (try with_reducible rfl)
      try simp only [Act.put, List.setIfInBounds_toArray, List.set_cons_zero, List.set_cons_succ]
      refine gs_run (i := 15) rfl (by kernel_rfl) (by rfl) (fun K hK => ?_)
      go_simp
      refine (awake_any _).mono ?_
      rintro e v7 ⟨rfl, gg⟩
      have hS := hS.below gg
      refine hK _ _ ⟨hS, ?_⟩
      clear hK K gg
      try simp only [Act.put, List.setIfInBounds_toArray, List.set_cons_zero, List.set_cons_succ]
      refine gs_take (i := 16) (d := (some 29)) (v := ?_) rfl rfl (by kernel_rfl) (fun _ _ _ h => h) (by rfl) hS (fun w' hb' => ?_) ?_
      rotate_left
      · (try go_simp); (try with_reducible rfl)
      try simp only [Act.put, List.setIfInBounds_toArray, List.set_cons_zero, List.set_cons_succ]
      refine gs_take (i := 17) (d := (some 6)) (v := ?_) rfl rfl (by kernel_rfl) (fun _ _ _ h => h) (by rfl) hS (fun w' hb' => ?_) ?_
      rotate_left
      · (try go_simp); (try with_reducible rfl)
      try simp only [Act.put, List.setIfInBounds_toArray, List.set_cons_zero, List.set_cons_succ]
      refine gs_done (by kernel_rfl) ?_
      go_wp2_with fail
      go_ret
      exact ⟨rfl, ⟨hS.os.trans Bw.os, hS.tape.trans Bw.tape, hS.output.trans Bw.output, Nat.le_trans Bw.size hS.size, fun k hk => (hS.block k (Nat.lt_of_lt_of_le hk Bw.size) (by have := Bel.size; omega) (by have := Bel.size; omega)).trans (Bw.block k hk)⟩⟩
    · skip
      go_simp
      have hgn : g < v1.heap.size := Nat.lt_of_lt_of_le hg.2 hS.size
      have hS2 : Two w3.drew (World.alloc v1 (.cells #[.int .u8 0] 5)) g g := hS.below ((Below.refl _ _).alloc (Nat.le_refl _) _)
      refine hK _ _ ⟨hS2, ?_⟩
      clear hK K
      obtain ⟨WA8, hWA⟩ : ∃ W, W = World.alloc v1 (.cells #[.int .u8 0] 5) := ⟨_, rfl⟩
      rw [← hWA]
      rw [← hWA] at hS2
      have hS := hS2
      have hz9 : WA8.heap[v1.heap.size]? = some (.cells #[.int .u8 0] 5 (0, 0)) := (by subst hWA; exact heap_alloc_new v1 _)
      have hown : WA8.ownsRow w0.heap.size 5 1 (.slice (some ⟨g, 0, none⟩) (8 + 8) cap) (8 + 8) (m.map bv) := (by subst hWA; exact hown.alloc _)
      generalize v1.heap.size = nb at hz9 hgn ⊢
      clear hWA hS2
      try simp only [Act.put, List.setIfInBounds_toArray, List.set_cons_zero, List.set_cons_succ]
      refine gs_run (i := 6) rfl (by kernel_rfl) (by rfl) (fun K hK => ?_)
      go_simp
      refine (St1 _ _ (own_rd hown)).mono ?_
      rintro e v9 ⟨rfl, gg⟩
      have hS := hS.below gg
      have hown := hown.kept (below_grown0 gg) (.inr (by simp [Value.ownBlock]))
      (try have hz9 := (gg.block _ (lt_of_block hz9)).trans hz9)
      refine hK _ _ ⟨hS, ?_⟩
      clear hK K gg
      try simp only [Act.put, List.setIfInBounds_toArray, List.set_cons_zero, List.set_cons_succ]
      refine gs_run (i := 10) rfl (by kernel_rfl) (by rfl) (fun K hK => ?_)
      have hcn : v9.cell? ⟨nb, 0, none⟩ = some (.int .u8 0) := by rw [block_cell hz9]; rfl
      refine wp_append_own v9 (.tmp 21) (.tmp 22) 25 rfl w0.heap.size 5 i0 (.int .u8 0) 1 1 Try.underlying25 hi0 hz0 hz1 hz2 rfl (by decide) _ (8 + 8) (m.map bv) rfl hown ⟨nb, 0, none⟩ 1 1 [.int .u8 0] rfl rfl (by intro j u hj; match j, hj with | 0, hj => (simp at hj; subst hj; exact hcn) | j + 1, hj => simp at hj) (by intro u hu; simp at hu; subst hu; rfl) (by unfold maxLen; omega) (by omega) (by have := hS.size; have : w0.heap.size ≤ w3.drew.heap.size := sB; omega) ?_
      intro v2 v10 hown2 hgr _
      have hS := hS.grown hgr
      rw [show (m.map bv ++ [Value.int .u8 0]) = (m ++ [0]).map bv from by rw [List.map_append]; rfl] at hown2
      obtain ⟨g2, cp2, rfl, _, _⟩ := slice_of_own hown2 (by omega)
      refine hK _ _ ⟨hS, ?_⟩
      clear hK K hgr hcn hz9 hown
      try simp only [Act.put, List.setIfInBounds_toArray, List.set_cons_zero, List.set_cons_succ]
      refine gs_run (i := 11) rfl (by kernel_rfl) (by rfl) (fun K hK => ?_)
      go_simp
      refine (St2 _ _ (own_rd hown2)).mono ?_
      rintro e v11 ⟨rfl, gg⟩
      have hS := hS.below gg
      refine hK _ _ ⟨hS, ?_⟩
      clear hK K gg
      try simp only [Act.put, List.setIfInBounds_toArray, List.set_cons_zero, List.set_cons_succ]
      refine gs_run (i := 12) rfl (by kernel_rfl) (by rfl) (fun K hK => ?_)
      go_simp
      refine hK _ _ ⟨hS, ?_⟩
      clear hK K
      try simp only [Act.put, List.setIfInBounds_toArray, List.set_cons_zero, List.set_cons_succ]
      refine gs_take (i := 13) (d := (some 26)) (v := ?_) rfl rfl (by kernel_rfl) (fun _ _ _ h => h) (by rfl) hS (fun w' hb' => ?_) ?_
      rotate_left
      · (refine sec_eq_op _ _ (.tmp 16) (.tmp 25) 24 s1 s2 ?_ ?_ ?_ w' <;> rfl); (try go_simp); (try with_reducible rfl)
      try simp only [Act.put, List.setIfInBounds_toArray, List.set_cons_zero, List.set_cons_succ]
      refine gs_take (i := 14) (d := (some 27)) (v := ?_) rfl rfl (by kernel_rfl) (fun _ _ _ h => h) (by rfl) hS (fun w' hb' => ?_) ?_
      rotate_left
      · (try go_simp); (try with_reducible rfl)
      try simp only [Act.put, List.setIfInBounds_toArray, List.set_cons_zero, List.set_cons_succ]
      refine gs_run (i := 15) rfl (by kernel_rfl) (by rfl) (fun K hK => ?_)
      go_simp
      refine (awake_any _).mono ?_
      rintro e v13 ⟨rfl, gg⟩
      have hS := hS.below gg
      refine hK _ _ ⟨hS, ?_⟩
      clear hK K gg
      try simp only [Act.put, List.setIfInBounds_toArray, List.set_cons_zero, List.set_cons_succ]
      refine gs_take (i := 16) (d := (some 29)) (v := ?_) rfl rfl (by kernel_rfl) (fun _ _ _ h => h) (by rfl) hS (fun w' hb' => ?_) ?_
      rotate_left
      · (try go_simp); (try with_reducible rfl)
      try simp only [Act.put, List.setIfInBounds_toArray, List.set_cons_zero, List.set_cons_succ]
      refine gs_take (i := 17) (d := (some 6)) (v := ?_) rfl rfl (by kernel_rfl) (fun _ _ _ h => h) (by rfl) hS (fun w' hb' => ?_) ?_
      rotate_left
      · (try go_simp); (try with_reducible rfl)
      try simp only [Act.put, List.setIfInBounds_toArray, List.set_cons_zero, List.set_cons_succ]
      refine gs_done (by kernel_rfl) ?_
      go_wp2_with fail
      go_ret
      exact ⟨rfl, ⟨hS.os.trans Bw.os, hS.tape.trans Bw.tape, hS.output.trans Bw.output, Nat.le_trans Bw.size hS.size, fun k hk => (hS.block k (Nat.lt_of_lt_of_le hk Bw.size) (by have := Bel.size; omega) (by have := Bel.size; omega)).trans (Bw.block k hk)⟩⟩
  · skip
    go_simp
    have hgn : g < w3.heap.size := Nat.lt_of_lt_of_le hg.2 hS.size
    have hS2 : Two w3.drew (World.drew (World.alloc w3 (.cells #[.int .u8 0] 5))) g g := hS.below ((Below.refl _ _).alloc (Nat.le_refl _) _)
    refine hK _ _ ⟨hS2, ?_⟩
    clear hK K
    obtain ⟨WA14, hWA⟩ : ∃ W, W = World.drew (World.alloc w3 (.cells #[.int .u8 0] 5)) := ⟨_, rfl⟩
    rw [← hWA]
    rw [← hWA] at hS2
    have hS := hS2
    have hz9 : WA14.heap[w3.heap.size]? = some (.cells #[.int .u8 0] 5 (0, 0)) := (by subst hWA; exact heap_alloc_new w3 _)
    have hown : WA14.ownsRow w0.heap.size 5 1 (.slice (some ⟨g, 0, none⟩) (8 + 8) cap) (8 + 8) (m.map bv) := (by subst hWA; exact hown.alloc _)
    generalize w3.heap.size = nb at hz9 hgn ⊢
    clear hWA hS2
    try simp only [Act.put, List.setIfInBounds_toArray, List.set_cons_zero, List.set_cons_succ]
    refine gs_run (i := 3) rfl (by kernel_rfl) (by rfl) (fun K hK => ?_)
    go_simp
    refine (Sp _).mono ?_
    rintro e v15 ⟨rfl, gg⟩
    have hS := hS.below gg
    have hown := hown.kept (below_grown0 gg) (.inr (by simp [Value.ownBlock]))
    (try have hz9 := (gg.block _ (lt_of_block hz9)).trans hz9)
    refine hK _ _ ⟨hS, ?_⟩
    clear hK K gg
    try simp only [Act.put, List.setIfInBounds_toArray, List.set_cons_zero, List.set_cons_succ]
    refine gs_run (i := 6) rfl (by kernel_rfl) (by rfl) (fun K hK => ?_)
    go_simp
    refine (St1 _ _ (own_rd hown)).mono ?_
    rintro e v16 ⟨rfl, gg⟩
    have hS := hS.below gg
    have hown := hown.kept (below_grown0 gg) (.inr (by simp [Value.ownBlock]))
    (try have hz9 := (gg.block _ (lt_of_block hz9)).trans hz9)
    refine hK _ _ ⟨hS, ?_⟩
    clear hK K gg
    try simp only [Act.put, List.setIfInBounds_toArray, List.set_cons_zero, List.set_cons_succ]
    refine gs_run (i := 10) rfl (by kernel_rfl) (by rfl) (fun K hK => ?_)
    have hcn : v16.cell? ⟨nb, 0, none⟩ = some (.int .u8 0) := by rw [block_cell hz9]; rfl
    refine wp_append_own v16 (.tmp 21) (.tmp 22) 25 rfl w0.heap.size 5 i0 (.int .u8 0) 1 1 Try.underlying25 hi0 hz0 hz1 hz2 rfl (by decide) _ (8 + 8) (m.map bv) rfl hown ⟨nb, 0, none⟩ 1 1 [.int .u8 0] rfl rfl (by intro j u hj; match j, hj with | 0, hj => (simp at hj; subst hj; exact hcn) | j + 1, hj => simp at hj) (by intro u hu; simp at hu; subst hu; rfl) (by unfold maxLen; omega) (by omega) (by have := hS.size; have : w0.heap.size ≤ w3.drew.heap.size := sB; omega) ?_
    intro v2 v17 hown2 hgr _
    have hS := hS.grown hgr
    rw [show (m.map bv ++ [Value.int .u8 0]) = (m ++ [0]).map bv from by rw [List.map_append]; rfl] at hown2
    obtain ⟨g2, cp2, rfl, _, _⟩ := slice_of_own hown2 (by omega)
    refine hK _ _ ⟨hS, ?_⟩
    clear hK K hgr hcn hz9 hown
    try simp only [Act.put, List.setIfInBounds_toArray, List.set_cons_zero, List.set_cons_succ]
    refine gs_run (i := 11) rfl (by kernel_rfl) (by rfl) (fun K hK => ?_)
    go_simp
    refine (St2 _ _ (own_rd hown2)).mono ?_
    rintro e v18 ⟨rfl, gg⟩
    have hS := hS.below gg
    refine hK _ _ ⟨hS, ?_⟩
    clear hK K gg
    try simp only [Act.put, List.setIfInBounds_toArray, List.set_cons_zero, List.set_cons_succ]
    refine gs_run (i := 12) rfl (by kernel_rfl) (by rfl) (fun K hK => ?_)
    go_simp
    refine hK _ _ ⟨hS, ?_⟩
    clear hK K
    try simp only [Act.put, List.setIfInBounds_toArray, List.set_cons_zero, List.set_cons_succ]
    refine gs_take (i := 13) (d := (some 26)) (v := ?_) rfl rfl (by kernel_rfl) (fun _ _ _ h => h) (by rfl) hS (fun w' hb' => ?_) ?_
    rotate_left
    · (refine sec_eq_op _ _ (.tmp 16) (.tmp 25) 24 s1 s2 ?_ ?_ ?_ w' <;> rfl); (try go_simp); (try with_reducible rfl)
    try simp only [Act.put, List.setIfInBounds_toArray, List.set_cons_zero, List.set_cons_succ]
    refine gs_take (i := 14) (d := (some 27)) (v := ?_) rfl rfl (by kernel_rfl) (fun _ _ _ h => h) (by rfl) hS (fun w' hb' => ?_) ?_
    rotate_left
    · (try go_simp); (try with_reducible rfl)
    try simp only [Act.put, List.setIfInBounds_toArray, List.set_cons_zero, List.set_cons_succ]
    refine gs_run (i := 15) rfl (by kernel_rfl) (by rfl) (fun K hK => ?_)
    go_simp
    refine (awake_any _).mono ?_
    rintro e v20 ⟨rfl, gg⟩
    have hS := hS.below gg
    refine hK _ _ ⟨hS, ?_⟩
    clear hK K gg
    try simp only [Act.put, List.setIfInBounds_toArray, List.set_cons_zero, List.set_cons_succ]
    refine gs_take (i := 16) (d := (some 29)) (v := ?_) rfl rfl (by kernel_rfl) (fun _ _ _ h => h) (by rfl) hS (fun w' hb' => ?_) ?_
    rotate_left
    · (try go_simp); (try with_reducible rfl)
    try simp only [Act.put, List.setIfInBounds_toArray, List.set_cons_zero, List.set_cons_succ]
    refine gs_take (i := 17) (d := (some 6)) (v := ?_) rfl rfl (by kernel_rfl) (fun _ _ _ h => h) (by rfl) hS (fun w' hb' => ?_) ?_
    rotate_left
    · (try go_simp); (try with_reducible rfl)
    try simp only [Act.put, List.setIfInBounds_toArray, List.set_cons_zero, List.set_cons_succ]
    refine gs_done (by kernel_rfl) ?_
    go_wp2_with fail
    go_ret
    exact ⟨rfl, ⟨hS.os.trans Bw.os, hS.tape.trans Bw.tape, hS.output.trans Bw.output, Nat.le_trans Bw.size hS.size, fun k hk => (hS.block k (Nat.lt_of_lt_of_le hk Bw.size) (by have := Bel.size; omega) (by have := Bel.size; omega)).trans (Bw.block k hk)⟩⟩
end Go.Proofs.Ytfejjmodkjpmfaa
