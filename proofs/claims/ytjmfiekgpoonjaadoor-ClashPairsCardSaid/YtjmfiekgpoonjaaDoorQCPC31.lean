/- Clash: the law ClashPairs. Written by wip/tools/gen23p.py. -/
import Derived.Test.YtjmfiekgpoonjaaDoorQCPC29
import Derived.Test.YtjmfiekgpoonjaaDoorQCPC30
namespace Go.Proofs.YtjmfiekgpoonjaaDoor
open Go Go.RowKit
set_option linter.unusedVariables false
set_option linter.unusedSimpArgs false
set_option maxRecDepth 100000 in
set_option maxHeartbeats 2000000 in
theorem law_pairs (pa pb : WV) (a b : Wt) (w : World) (tab : TabAt w) (ha : RdWV w pa a) (hb : RdWV w pb b) (za : SzW a) (zb : SzW b) :
    Calls Tryd.prog 3 #[.agg #[.slice pa.a1 pa.n1 pa.c1, .slice pa.a2 pa.n2 pa.c2], .agg #[.slice pb.a1 pb.n1 pb.c1, .slice pb.a2 pb.n2 pb.c2]] w fun e w' => e = .returned (.bool true) ∧ Below w.heap.size w w' := by
  obtain ⟨qa, qb, -, -⟩ := two_allocs w (.cells #[.slice pa.a1 pa.n1 pa.c1, .slice pa.a2 pa.n2 pa.c2] 24) (.cells #[.slice pb.a1 pb.n1 pb.c1, .slice pb.a2 pb.n2 pb.c2] 24)
  have bel := ((Below.refl w.heap.size w).alloc (Nat.le_refl _) (.cells #[.slice pa.a1 pa.n1 pa.c1, .slice pa.a2 pa.n2 pa.c2] 24)).alloc (by simp) (.cells #[.slice pb.a1 pb.n1 pb.c1, .slice pb.a2 pb.n2 pb.c2] 24)
  go_enter Tryd.func3, Tryd.ntmps3
  go_wp2_with fail
  obtain ⟨W0, hW0⟩ : ∃ W, W = (w.alloc (.cells #[.slice pa.a1 pa.n1 pa.c1, .slice pa.a2 pa.n2 pa.c2] 24)).alloc (.cells #[.slice pb.a1 pb.n1 pb.c1, .slice pb.a2 pb.n2 pb.c2] 24) := ⟨_, rfl⟩
  rw [← hW0] at qa qb bel ⊢
  clear hW0
  have hz0 : w.heap.size + 1 < W0.heap.size := lt_of_block qb
  have WA := Lib.hid (fun W (g : Below W0.heap.size W0 W) => wants_any (.slice pa.a1 pa.n1 pa.c1) (.slice pa.a2 pa.n2 pa.c2) a W ((ha.1.below bel (Nat.le_refl _)).below g (Nat.le_refl _)) ((ha.2.below bel (Nat.le_refl _)).below g (Nat.le_refl _)) za)
  have WB := Lib.hid (fun W (g : Below W0.heap.size W0 W) => wants_any (.slice pb.a1 pb.n1 pb.c1) (.slice pb.a2 pb.n2 pb.c2) b W ((hb.1.below bel (Nat.le_refl _)).below g (Nat.le_refl _)) ((hb.2.below bel (Nat.le_refl _)).below g (Nat.le_refl _)) zb)
  refine t_start 4 (by kernel_rfl) ?_
  refine t_take (i := 0) (d := (some 5)) (v := ?_) rfl rfl (by kernel_rfl) (fun _ _ _ h => h) (by rfl) (fun w' hb' => ?_) ?_
  rotate_left
  · obtain ⟨c0, c1, cf⟩ := block_cells2 ((hb'.block _ (lt_of_block qa)).trans qa); (try go_simp); (try with_reducible rfl)
  try simp only [Act.put, List.setIfInBounds_toArray, List.set_cons_zero, List.set_cons_succ]
  refine t_take (i := 2) (d := (some 7)) (v := ?_) rfl rfl (by kernel_rfl) (fun _ _ _ h => h) (by rfl) (fun w' hb' => ?_) ?_
  rotate_left
  · obtain ⟨c0, c1, cf⟩ := block_cells2 ((hb'.block _ (lt_of_block qb)).trans qb); (try go_simp); (try with_reducible rfl)
  try simp only [Act.put, List.setIfInBounds_toArray, List.set_cons_zero, List.set_cons_succ]
  refine t_run (i := 1) rfl (by kernel_rfl) (by kernel_rfl) (by rfl) (fun K hK => ?_)
  go_simp
  refine (WA.out _ (Below.drew (Below.refl _ _))).mono ?_
  rintro e y1 ⟨a1, n1, k1, a2, n2, k2, rfl, r1, r2, gg⟩
  have g1 := Below.trans (Below.drew (Below.refl W0.heap.size W0)) gg
  have qa := (g1.block _ (lt_of_block qa)).trans qa
  have qb := (g1.block _ (lt_of_block qb)).trans qb
  have bel := chain bel g1
  have hz1 := lt_of_block qb
  refine hK _ _ ⟨gg, ?_⟩
  clear hK K gg
  try simp only [Act.put, List.setIfInBounds_toArray, List.set_cons_zero, List.set_cons_succ]
  refine t_run (i := 3) rfl (by kernel_rfl) (by kernel_rfl) (by rfl) (fun K hK => ?_)
  go_simp
  refine (WB.out _ g1).mono ?_
  rintro e y2 ⟨a3, n3, k3, a4, n4, k4, rfl, r3, r4, gg⟩
  have qa := (gg.block _ (lt_of_block qa)).trans qa
  have qb := (gg.block _ (lt_of_block qb)).trans qb
  have r1 := own_keep r1 gg
  have r2 := own_keep r2 gg
  have bel := chain bel gg
  refine hK _ _ ⟨gg, ?_⟩
  clear hK K gg g1
  try simp only [Act.put, List.setIfInBounds_toArray, List.set_cons_zero, List.set_cons_succ]
  refine t_into ?_
  refine t_tail (i := 4) rfl (by kernel_rfl) (by kernel_rfl) (by rfl) (fun K hK => ?_)
  obtain ⟨c0, c1, cf⟩ := block_cells2 qa
  have hl := lt_of_block qa
  go_simp
  refine hK _ _ ?_
  clear hK K c0 c1 cf hl
  have qa : ((y2.setCell ⟨w.heap.size, 0, none⟩ (.slice a1 n1 k1)).setCell ⟨w.heap.size, 1, none⟩ (.slice a2 n2 k2)).heap[w.heap.size]? = some (.cells #[.slice a1 n1 k1, .slice a2 n2 k2] 24 (0, 0)) := by simpa using set_at (i := 1) (u := Value.slice a2 n2 k2) (set_at (i := 0) (u := Value.slice a1 n1 k1) qa)
  have qb := (set_old (B := w.heap.size) (i := 1) (u := Value.slice a2 n2 k2) (by omega)).trans ((set_old (B := w.heap.size) (i := 0) (u := Value.slice a1 n1 k1) (by omega)).trans qb)
  have bel := (bel.setCell (p := ⟨w.heap.size, 0, none⟩) (by simp) (.slice a1 n1 k1)).setCell (p := ⟨w.heap.size, 1, none⟩) (by simp) (.slice a2 n2 k2)
  have r1 := own_set (i := 1) (own_set (i := 0) r1 (show w.heap.size < _ from Nat.lt_of_succ_lt hz0) (.slice a1 n1 k1)) (show w.heap.size < _ from Nat.lt_of_succ_lt hz0) (.slice a2 n2 k2)
  have r2 := own_set (i := 1) (own_set (i := 0) r2 (show w.heap.size < _ from Nat.lt_of_succ_lt hz0) (.slice a1 n1 k1)) (show w.heap.size < _ from Nat.lt_of_succ_lt hz0) (.slice a2 n2 k2)
  have r3 := own_set (i := 1) (own_set (i := 0) r3 (show w.heap.size < _ from Nat.lt_of_succ_lt hz1) (.slice a1 n1 k1)) (show w.heap.size < _ from Nat.lt_of_succ_lt hz1) (.slice a2 n2 k2)
  have r4 := own_set (i := 1) (own_set (i := 0) r4 (show w.heap.size < _ from Nat.lt_of_succ_lt hz1) (.slice a1 n1 k1)) (show w.heap.size < _ from Nat.lt_of_succ_lt hz1) (.slice a2 n2 k2)
  obtain ⟨y3, hy3⟩ : ∃ W, W = ((y2.setCell ⟨w.heap.size, 0, none⟩ (.slice a1 n1 k1)).setCell ⟨w.heap.size, 1, none⟩ (.slice a2 n2 k2)) := ⟨_, rfl⟩
  rw [← hy3] at qa qb bel r1 r2 r3 r4
  change wpO _ _ _ _ _ _ _ ((y2.setCell ⟨w.heap.size, 0, none⟩ (.slice a1 n1 k1)).setCell ⟨w.heap.size, 1, none⟩ (.slice a2 n2 k2))
  rw [← hy3]
  clear hy3
  try simp only [Act.put, List.setIfInBounds_toArray, List.set_cons_zero, List.set_cons_succ]
  refine t_tail (i := 5) rfl (by kernel_rfl) (by kernel_rfl) (by rfl) (fun K hK => ?_)
  obtain ⟨c0, c1, cf⟩ := block_cells2 qb
  have hl := lt_of_block qb
  go_simp
  refine hK _ _ ?_
  clear hK K c0 c1 cf hl
  have qb : ((y3.setCell ⟨w.heap.size + 1, 0, none⟩ (.slice a3 n3 k3)).setCell ⟨w.heap.size + 1, 1, none⟩ (.slice a4 n4 k4)).heap[w.heap.size + 1]? = some (.cells #[.slice a3 n3 k3, .slice a4 n4 k4] 24 (0, 0)) := by simpa using set_at (i := 1) (u := Value.slice a4 n4 k4) (set_at (i := 0) (u := Value.slice a3 n3 k3) qb)
  have qa := (set_old (B := w.heap.size + 1) (i := 1) (u := Value.slice a4 n4 k4) (by omega)).trans ((set_old (B := w.heap.size + 1) (i := 0) (u := Value.slice a3 n3 k3) (by omega)).trans qa)
  have bel := (bel.setCell (p := ⟨w.heap.size + 1, 0, none⟩) (by simp) (.slice a3 n3 k3)).setCell (p := ⟨w.heap.size + 1, 1, none⟩) (by simp) (.slice a4 n4 k4)
  have r1 := own_set (i := 1) (own_set (i := 0) r1 (show w.heap.size + 1 < _ from hz0) (.slice a3 n3 k3)) (show w.heap.size + 1 < _ from hz0) (.slice a4 n4 k4)
  have r2 := own_set (i := 1) (own_set (i := 0) r2 (show w.heap.size + 1 < _ from hz0) (.slice a3 n3 k3)) (show w.heap.size + 1 < _ from hz0) (.slice a4 n4 k4)
  have r3 := own_set (i := 1) (own_set (i := 0) r3 (show w.heap.size + 1 < _ from hz1) (.slice a3 n3 k3)) (show w.heap.size + 1 < _ from hz1) (.slice a4 n4 k4)
  have r4 := own_set (i := 1) (own_set (i := 0) r4 (show w.heap.size + 1 < _ from hz1) (.slice a3 n3 k3)) (show w.heap.size + 1 < _ from hz1) (.slice a4 n4 k4)
  obtain ⟨WS, hWS⟩ : ∃ W, W = ((y3.setCell ⟨w.heap.size + 1, 0, none⟩ (.slice a3 n3 k3)).setCell ⟨w.heap.size + 1, 1, none⟩ (.slice a4 n4 k4)) := ⟨_, rfl⟩
  rw [← hWS] at qa qb bel r1 r2 r3 r4
  change wpO _ _ _ _ _ _ _ ((y3.setCell ⟨w.heap.size + 1, 0, none⟩ (.slice a3 n3 k3)).setCell ⟨w.heap.size + 1, 1, none⟩ (.slice a4 n4 k4))
  rw [← hWS]
  clear hWS
  try simp only [Act.put, List.setIfInBounds_toArray, List.set_cons_zero, List.set_cons_succ]
  refine t_over (by kernel_rfl) ?_

  have d1 := own_rdv r1
  have d2 := own_rdv r2
  have d3 := own_rdv r3
  have d4 := own_rdv r4
  have tb := tab.below bel
  have BW := Lib.hid bel
  have sa := fewW_sz a
  have sb := fewW_sz b
  have PA0 := fun W (g : Below WS.heap.size WS W) => cpair_any (.slice a1 n1 k1) (.slice a2 n2 k2) (.slice a3 n3 k3) (.slice a4 n4 k4) (fewW a) (fewW b) W (tb.below g) (RdS.below d1 g (Nat.le_refl _)) (RdS.below d2 g (Nat.le_refl _)) (RdS.below d3 g (Nat.le_refl _)) (RdS.below d4 g (Nat.le_refl _)) sa sb
  have PB0 := fun W (g : Below WS.heap.size WS W) => cpair_any (.slice a3 n3 k3) (.slice a4 n4 k4) (.slice a1 n1 k1) (.slice a2 n2 k2) (fewW b) (fewW a) W (tb.below g) (RdS.below d3 g (Nat.le_refl _)) (RdS.below d4 g (Nat.le_refl _)) (RdS.below d1 g (Nat.le_refl _)) (RdS.below d2 g (Nat.le_refl _)) sb sa
  have PR0 := fun W (g : Below WS.heap.size WS W) => rpair_any (.slice a1 n1 k1) (.slice a2 n2 k2) (.slice a3 n3 k3) (.slice a4 n4 k4) (fewW a) (fewW b) W (tb.below g) (RdS.below d1 g (Nat.le_refl _)) (RdS.below d2 g (Nat.le_refl _)) (RdS.below d3 g (Nat.le_refl _)) (RdS.below d4 g (Nat.le_refl _)) sa sb
  rw [pairW_comm (fewW b) (fewW a)] at PB0
  generalize pairW (fewW a) (fewW b) = R at PA0 PB0 PR0
  have PA := Lib.hid PA0
  have PB := Lib.hid PB0
  have PR := Lib.hid PR0
  have AW := Lib.hid (fun W (g : Below WS.heap.size WS W) => awake23_any W (tb.below g))
  have hS := Below.refl WS.heap.size WS
  clear PA0 PB0 PR0 d1 d2 d3 d4 r1 r2 r3 r4 WA WB bel tab ha hb za zb sa sb hz0 hz1 tb
  cases R
  all_goals
    go_wp2_with fail
    refine g_start (by kernel_rfl) ?_
    refine g_take (i := 0) (d := (some 9)) (v := ?_) rfl rfl (by kernel_rfl) (fun _ _ _ h => h) (by rfl) (fun w' hb' => ?_) ?_
    rotate_left
    · obtain ⟨c0, c1, cf⟩ := block_cells2 ((hb'.block _ (lt_of_block qa)).trans qa); (try go_simp); (try with_reducible rfl)
    try simp only [Act.put, List.setIfInBounds_toArray, List.set_cons_zero, List.set_cons_succ]
    refine g_take (i := 1) (d := (some 10)) (v := ?_) rfl rfl (by kernel_rfl) (fun _ _ _ h => h) (by rfl) (fun w' hb' => ?_) ?_
    rotate_left
    · obtain ⟨c0, c1, cf⟩ := block_cells2 ((hb'.block _ (lt_of_block qb)).trans qb); (try go_simp); (try with_reducible rfl)
    try simp only [Act.put, List.setIfInBounds_toArray, List.set_cons_zero, List.set_cons_succ]
    refine g_take (i := 3) (d := (some 12)) (v := ?_) rfl rfl (by kernel_rfl) (fun _ _ _ h => h) (by rfl) (fun w' hb' => ?_) ?_
    rotate_left
    · obtain ⟨c0, c1, cf⟩ := block_cells2 ((hb'.block _ (lt_of_block qa)).trans qa); (try go_simp); (try with_reducible rfl)
    try simp only [Act.put, List.setIfInBounds_toArray, List.set_cons_zero, List.set_cons_succ]
    refine g_take (i := 4) (d := (some 13)) (v := ?_) rfl rfl (by kernel_rfl) (fun _ _ _ h => h) (by rfl) (fun w' hb' => ?_) ?_
    rotate_left
    · obtain ⟨c0, c1, cf⟩ := block_cells2 ((hb'.block _ (lt_of_block qb)).trans qb); (try go_simp); (try with_reducible rfl)
    try simp only [Act.put, List.setIfInBounds_toArray, List.set_cons_zero, List.set_cons_succ]
    refine g_run (i := 2) rfl (by kernel_rfl) (by rfl) (fun K hK => ?_)
    go_simp; refine (PA.out _ (Below.drew hS)).mono ?_; rintro e u11 ⟨rfl, gg⟩; have hS := chain (Below.drew hS) gg; have qa := ((Below.trans (Below.drew (Below.refl WS.heap.size WS)) gg).block _ (lt_of_block qa)).trans qa; have qb := ((Below.trans (Below.drew (Below.refl WS.heap.size WS)) gg).block _ (lt_of_block qb)).trans qb; refine hK _ _ ⟨gg, ?_⟩; clear hK K gg
    try simp only [Act.put, List.setIfInBounds_toArray, List.set_cons_zero, List.set_cons_succ]
    refine g_run (i := 5) rfl (by kernel_rfl) (by rfl) (fun K hK => ?_)
    go_simp; refine (PR.out _ hS).mono ?_; rintro e u14 ⟨rfl, gg⟩; have hS := chain hS gg; have qa := (gg.block _ (lt_of_block qa)).trans qa; have qb := (gg.block _ (lt_of_block qb)).trans qb; refine hK _ _ ⟨gg, ?_⟩; clear hK K gg
    try simp only [Act.put, List.setIfInBounds_toArray, List.set_cons_zero, List.set_cons_succ]
    refine g_take (i := 6) (d := (some 15)) (v := ?_) rfl rfl (by kernel_rfl) (fun _ _ _ h => h) (by rfl) (fun w' hb' => ?_) ?_
    rotate_left
    · (try go_simp); (try with_reducible rfl)
    try simp only [Act.put, List.setIfInBounds_toArray, List.set_cons_zero, List.set_cons_succ]
    refine g_take (i := 7) (d := (some 16)) (v := ?_) rfl rfl (by kernel_rfl) (fun _ _ _ h => h) (by rfl) (fun w' hb' => ?_) ?_
    rotate_left
    · (try go_simp); (try with_reducible rfl)
    try simp only [Act.put, List.setIfInBounds_toArray, List.set_cons_zero, List.set_cons_succ]
    refine g_take (i := 8) (d := (some 17)) (v := ?_) rfl rfl (by kernel_rfl) (fun _ _ _ h => h) (by rfl) (fun w' hb' => ?_) ?_
    rotate_left
    · obtain ⟨c0, c1, cf⟩ := block_cells2 ((hb'.block _ (lt_of_block qb)).trans qb); (try go_simp); (try with_reducible rfl)
    try simp only [Act.put, List.setIfInBounds_toArray, List.set_cons_zero, List.set_cons_succ]
    refine g_take (i := 9) (d := (some 18)) (v := ?_) rfl rfl (by kernel_rfl) (fun _ _ _ h => h) (by rfl) (fun w' hb' => ?_) ?_
    rotate_left
    · obtain ⟨c0, c1, cf⟩ := block_cells2 ((hb'.block _ (lt_of_block qa)).trans qa); (try go_simp); (try with_reducible rfl)
    try simp only [Act.put, List.setIfInBounds_toArray, List.set_cons_zero, List.set_cons_succ]
    refine g_take (i := 11) (d := (some 20)) (v := ?_) rfl rfl (by kernel_rfl) (fun _ _ _ h => h) (by rfl) (fun w' hb' => ?_) ?_
    rotate_left
    · obtain ⟨c0, c1, cf⟩ := block_cells2 ((hb'.block _ (lt_of_block qa)).trans qa); (try go_simp); (try with_reducible rfl)
    try simp only [Act.put, List.setIfInBounds_toArray, List.set_cons_zero, List.set_cons_succ]
    refine g_take (i := 12) (d := (some 21)) (v := ?_) rfl rfl (by kernel_rfl) (fun _ _ _ h => h) (by rfl) (fun w' hb' => ?_) ?_
    rotate_left
    · obtain ⟨c0, c1, cf⟩ := block_cells2 ((hb'.block _ (lt_of_block qb)).trans qb); (try go_simp); (try with_reducible rfl)
    try simp only [Act.put, List.setIfInBounds_toArray, List.set_cons_zero, List.set_cons_succ]
    refine g_run (i := 10) rfl (by kernel_rfl) (by rfl) (fun K hK => ?_)
    go_simp; refine (PB.out _ hS).mono ?_; rintro e u19 ⟨rfl, gg⟩; have hS := chain hS gg; have qa := (gg.block _ (lt_of_block qa)).trans qa; have qb := (gg.block _ (lt_of_block qb)).trans qb; refine hK _ _ ⟨gg, ?_⟩; clear hK K gg
    try simp only [Act.put, List.setIfInBounds_toArray, List.set_cons_zero, List.set_cons_succ]
    refine g_run (i := 13) rfl (by kernel_rfl) (by rfl) (fun K hK => ?_)
    go_simp; refine (PA.out _ hS).mono ?_; rintro e u22 ⟨rfl, gg⟩; have hS := chain hS gg; have qa := (gg.block _ (lt_of_block qa)).trans qa; have qb := (gg.block _ (lt_of_block qb)).trans qb; refine hK _ _ ⟨gg, ?_⟩; clear hK K gg
    try simp only [Act.put, List.setIfInBounds_toArray, List.set_cons_zero, List.set_cons_succ]
    refine g_take (i := 14) (d := (some 23)) (v := ?_) rfl rfl (by kernel_rfl) (fun _ _ _ h => h) (by rfl) (fun w' hb' => ?_) ?_
    rotate_left
    · (try go_simp); (try with_reducible rfl)
    try simp only [Act.put, List.setIfInBounds_toArray, List.set_cons_zero, List.set_cons_succ]
    refine g_take (i := 15) (d := (some 24)) (v := ?_) rfl rfl (by kernel_rfl) (fun _ _ _ h => h) (by rfl) (fun w' hb' => ?_) ?_
    rotate_left
    · (try go_simp); (try with_reducible rfl)
    try simp only [Act.put, List.setIfInBounds_toArray, List.set_cons_zero, List.set_cons_succ]
    refine g_take (i := 16) (d := (some 25)) (v := ?_) rfl rfl (by kernel_rfl) (fun _ _ _ h => h) (by rfl) (fun w' hb' => ?_) ?_
    rotate_left
    · (try go_simp); (try with_reducible rfl)
    try simp only [Act.put, List.setIfInBounds_toArray, List.set_cons_zero, List.set_cons_succ]
    refine g_run (i := 17) rfl (by kernel_rfl) (by rfl) (fun K hK => ?_)
    go_simp; refine (AW.out _ hS).mono ?_; rintro e u26 ⟨rfl, gg⟩; have hS := chain hS gg; have qa := (gg.block _ (lt_of_block qa)).trans qa; have qb := (gg.block _ (lt_of_block qb)).trans qb; refine hK _ _ ⟨gg, ?_⟩; clear hK K gg
    try simp only [Act.put, List.setIfInBounds_toArray, List.set_cons_zero, List.set_cons_succ]
    refine g_take (i := 18) (d := (some 27)) (v := ?_) rfl rfl (by kernel_rfl) (fun _ _ _ h => h) (by rfl) (fun w' hb' => ?_) ?_
    rotate_left
    · (try go_simp); (try with_reducible rfl)
    try simp only [Act.put, List.setIfInBounds_toArray, List.set_cons_zero, List.set_cons_succ]
    refine g_take (i := 19) (d := (some 4)) (v := ?_) rfl rfl (by kernel_rfl) (fun _ _ _ h => h) (by rfl) (fun w' hb' => ?_) ?_
    rotate_left
    · (try go_simp); (try with_reducible rfl)
    try simp only [Act.put, List.setIfInBounds_toArray, List.set_cons_zero, List.set_cons_succ]
    refine g_done (by kernel_rfl) ?_

    go_wp2_with fail
    go_ret
    exact ⟨rfl, chain BW.out hS⟩
end Go.Proofs.YtjmfiekgpoonjaaDoor
