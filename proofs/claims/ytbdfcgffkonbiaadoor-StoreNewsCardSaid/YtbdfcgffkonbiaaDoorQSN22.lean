/- Stores: the law StoreNews. Written by wip/tools/gen13ln.py. -/
import Derived.Test.YtbdfcgffkonbiaaDoorQSN21
namespace Go.Proofs.YtbdfcgffkonbiaaDoor
open Go Go.RowKit
set_option linter.unusedVariables false
set_option linter.unusedSimpArgs false
set_option maxRecDepth 100000 in
set_option maxHeartbeats 4000000 in
theorem storenews_any (b k : Int) (cs : Array Value) (s : St) (w : World) (tab : TabAt w) (h : RdS w cs s) (hsz : SzT s.lv) (hwf : WfT s.lv) :
    Calls Tryd.prog 3 #[.int .i64 b, .int .i64 k, .agg cs] w fun e w' => e = .returned (.bool true) ∧ Below w.heap.size w w' := by
  have TAB := Lib.hid tab
  have z0 := zeroS_run
  have z1 := zS_ne
  have hs0 := infoS h.size
  obtain ⟨sF, hsF0⟩ : ∃ x, x = fewS s := ⟨_, rfl⟩
  have szF : SzT sF.lv := by rw [hsF0]; exact fewT_sz s.lv
  have wfF : WfT sF.lv := by rw [hsF0]; exact fewT_wf hwf
  have lenF : ∀ b, b < 16 → (sF.lv b).length ≤ 100 := by rw [hsF0]; exact fewT_len s.lv
  have q5 := heap_alloc_new w (.cells cs 28)
  have bel := (Below.refl w.heap.size w).alloc (Nat.le_refl _) (.cells cs 28)
  have FW0 := few13_any cs s _ (h.below bel (Nat.le_refl _)) hsz
  unfold FewSP at FW0
  rw [← hsF0] at FW0
  have FW := Lib.hid FW0
  have hsz0 := h.size
  clear FW0
  have HBN := Lib.hid (show ∀ w, (Instr.build 28 #[(2, .int .i64 b), (3, .int .i64 k)]).run Tryd.prog w = .ok (.agg (zSN b k)) w from fun w => run_build w _ _ _ (zSN_built b k))
  clear h hsz hwf tab hsF0
  go_enter Tryd.func3, Tryd.ntmps3
  go_wp2_with ((with_reducible refine wpList_load_row (o := ⟨some 11, _, _, _, _, _⟩) rfl 28 (.tmp 5) rfl _ rfl _ cs (0, 0) _ q5 Tryd.underlying28 rfl hs0 ?_))
  refine FW.out.mono ?_
  rintro e v1 ⟨CF, rfl, own, g⟩
  have hl0 : w.heap.size + 1 = (w.alloc (.cells cs 28)).heap.size := by simp
  rw [← hl0] at own
  have q5 := (g.block _ (lt_of_block q5)).trans q5
  have bel := chain bel g
  have hszF := own.size
  have hsF := infoS own.size
  have hcF : cs.size = CF.size := by rw [own.size]; exact hsz0
  have hoF := own.one
  clear g hl0
  go_wp2_with ((with_reducible refine wpList_store_row (o := ⟨none, _, _, _, _, _⟩) rfl 28 (.tmp 5) (.tmp 12) rfl _ CF rfl rfl _ cs q5 hsF hcF hoF ?_); (obtain ⟨WS, hWS⟩ : ∃ X, X = World.setRow v1 w.heap.size CF := ⟨_, rfl⟩); rw [← hWS]; (have q5 : WS.heap[w.heap.size]? = some (.cells CF 28 (0, 0)) := by rw [hWS]; exact setRow_heap _ _ _ CF _ _ q5); (have bel : Below w.heap.size w WS := by rw [hWS]; exact below_row bel (Nat.le_refl _) CF); (have own : OwnS (w.heap.size + 1) WS CF sF := by rw [hWS]; exact own.moved (fun k hk _ => by rw [setRow_other _ _ _ _ (by omega)])); clear hWS)
  have RS := Lib.hid own.rd
  have BW := Lib.hid bel
  have TS0 := Lib.hid (TAB.out.below bel)
  have hS := Below.refl WS.heap.size WS
  have NW0 := new13_any b k WS TS0.out
  have RM0 := fun W (g : Below WS.heap.size WS W) => room13_any CF sF W (TS0.out.below g) (RS.out.below g (Nat.le_refl _)) szF wfF lenF
  have RY0 := fun W (g : Below WS.heap.size WS W) => refMay13_any CF sF W (TS0.out.below g) (RS.out.below g (Nat.le_refl _)) szF wfF lenF
  have MY0 := fun W (g : Below WS.heap.size WS W) => may13_any CF sF W (TS0.out.below g) (RS.out.below g (Nat.le_refl _)) szF wfF lenF
  have SM0 := fun W (g : Below WS.heap.size WS W) => psame13_any CF CF sF sF W (TS0.out.below g) (RS.out.below g (Nat.le_refl _)) (RS.out.below g (Nat.le_refl _)) szF szF wfF lenF
  have WT0 := fun W (g : Below WS.heap.size WS W) (hm : mayTs sF.lv sF.vs 16 = true) => refWeight13_any (tC CF) sF.lv sF.vs W (RS.out.tr.below g (Nat.le_refl _)) szF wfF lenF hm
  have AL0 := fun W (g : Below WS.heap.size WS W) => all_any (tC CF) sF.lv sF.vs W (RS.out.tr.below g (Nat.le_refl _)) lenF
  have AW := Lib.hid (fun W (g : Below WS.heap.size WS W) => awake13_any W (TS0.out.below g))
  have NN := Lib.hid (fun W (g : Below WS.heap.size WS W) => show Calls Tryd.prog 15 #[.agg zS] W fun e w' => e = .returned (.bool true) ∧ Below W.heap.size W w' by
    have := none13_any zS stQ W (rds_zero W) (fun _ _ => by simp [stQ])
    rw [sameS_refl] at this
    exact this)
  have NS := Lib.hid (fun W (g : Below WS.heap.size WS W) => show Calls Tryd.prog 16 #[.agg (zSN b k), .agg (zSN b k)] W fun e w' => e = .returned (.bool true) ∧ Below W.heap.size W w' by
    have := same13_any (zSN b k) (zSN b k) (stN b k) (stN b k) W (rds_new W b k) (rds_new W b k) (fun _ _ => by simp [stN]) (fun _ _ => by simp [stN])
    rw [sameS_refl] at this
    exact this)
  clear bel own hcF lenF wfF szF FW
  by_cases c0 : b < 0
  · skip
    have t0 : decide (b < 0) = true := decide_eq_true c0
    have hnb : newB b k = false := by
      unfold newB rngB
      rw [Bool.eq_false_iff]; intro hh; simp only [Bool.and_eq_true, decide_eq_true_eq] at hh; omega
    have NW := Lib.hid (show Calls Tryd.prog 14 #[.int .i64 b, .int .i64 k] WS fun e w' => e = .returned (.tuple #[.agg zS, .int .i64 1]) ∧ Below WS.heap.size WS w' by
      have := NW0
      unfold NewZ at this
      rw [if_neg (by rw [hnb]; decide), if_neg (by rw [hnb]; decide)] at this
      exact this)
    clear NW0 hnb c0
    go_wp2_with fail
    refine (NW.out).mono ?_
    rintro e x0 ⟨rfl, g⟩
    have q5 := (g.block _ (lt_of_block q5)).trans q5
    have hS := chain hS g
    clear g
    have qd7 := heap_alloc_new x0 (.cells zS 28)
    go_wp2_with (first | ((with_reducible refine wpList_store_row (o := ⟨none, _, _, _, _, _⟩) rfl 28 (.tmp 7) (.tmp 17) rfl _ zS rfl rfl _ zS qd7 (infoS zS_size) rfl zS_one ?_); (obtain ⟨y0, hWn⟩ : ∃ W, W = (World.alloc x0 (.cells zS 28)).setRow x0.heap.size zS := ⟨_, rfl⟩); rw [← hWn]; (have q7 : y0.heap[x0.heap.size]? = some (.cells zS 28 (0, 0)) := by rw [hWn]; exact setRow_heap _ _ _ zS _ _ qd7); (have gn : Below x0.heap.size x0 y0 := by rw [hWn]; exact below_row ((Below.refl _ _).alloc (Nat.le_refl _) _) (Nat.le_refl _) zS); clear hWn qd7; (have hS := chain hS gn); (have q5 := (gn.block _ (lt_of_block q5)).trans q5); clear gn) | ((with_reducible refine wpList_load_row (o := ⟨some 33, _, _, _, _, _⟩) rfl 28 (.tmp 7) rfl _ rfl _ zS (0, 0) _ q7 Tryd.underlying28 rfl (infoS zS_size) ?_)))
    refine (NN.out _ hS).mono ?_
    rintro e y1 ⟨rfl, g⟩
    have q5 := (g.block _ (lt_of_block q5)).trans q5
    have hS := chain hS g
    clear g
    clear q7
    cases hm : mayS sF with
    | false =>
      rw [hm] at RY0 MY0
      have RM := Lib.hid (fun W (g : Below WS.heap.size WS W) => show Calls Tryd.prog 17 #[.agg CF] W fun e w' => e = .returned (.tuple #[.int .i64 0, .int .i64 0]) ∧ Below W.heap.size W w' by
        have := RM0 W g
        unfold RoomZ at this
        rw [if_neg (by rw [hm]; decide), if_neg (by rw [hm]; decide)] at this
        exact this)
      have SM := Lib.hid (fun W (g : Below WS.heap.size WS W) => show Calls Tryd.prog 20 #[.agg CF, .agg CF] W fun e w' => e = .returned (.bool false) ∧ Below W.heap.size W w' by
        have := SM0 W g
        rw [pSame_no hm] at this
        exact this)
      have RY := Lib.hid RY0
      have MY := Lib.hid MY0
      clear RM0 SM0 RY0 MY0 WT0 AL0 hm
      go_wp2_with ((with_reducible refine wpList_load_row (o := ⟨some 51, _, _, _, _, _⟩) rfl 28 (.tmp 5) rfl _ rfl _ CF (0, 0) _ q5 Tryd.underlying28 rfl hsF ?_))
      refine (RM.out _ hS).mono ?_
      rintro e x1 ⟨rfl, g⟩
      have q5 := (g.block _ (lt_of_block q5)).trans q5
      have hS := chain hS g
      clear g
      go_wp2_with ((with_reducible refine wpList_load_row (o := ⟨some 55, _, _, _, _, _⟩) rfl 28 (.tmp 5) rfl _ rfl _ CF (0, 0) _ q5 Tryd.underlying28 rfl hsF ?_))
      refine (RY.out _ hS).mono ?_
      rintro e x2 ⟨rfl, g⟩
      have q5 := (g.block _ (lt_of_block q5)).trans q5
      have hS := chain hS g
      clear g
      go_wp2_with ((with_reducible refine wpList_load_row (o := ⟨some 58, _, _, _, _, _⟩) rfl 28 (.tmp 5) rfl _ rfl _ CF (0, 0) _ q5 Tryd.underlying28 rfl hsF ?_))
      refine (MY.out _ hS).mono ?_
      rintro e x3 ⟨rfl, g⟩
      have q5 := (g.block _ (lt_of_block q5)).trans q5
      have hS := chain hS g
      clear g
      go_wp2_with (first | ((with_reducible refine wpList_load_row_g (o := ⟨some 70, _, _, _, _, _⟩) ?_ 28 (.tmp 5) rfl _ rfl _ CF (0, 0) _ q5 Tryd.underlying28 rfl hsF ?_); rfl) | ((with_reducible refine wpList_load_row_g (o := ⟨some 71, _, _, _, _, _⟩) ?_ 28 (.tmp 5) rfl _ rfl _ CF (0, 0) _ q5 Tryd.underlying28 rfl hsF ?_); rfl))
      refine (SM.out _ hS).mono ?_
      rintro e x4 ⟨rfl, g⟩
      have q5 := (g.block _ (lt_of_block q5)).trans q5
      have hS := chain hS g
      clear g
      go_wp2_with fail
      refine (AW.out _ hS).mono ?_
      rintro e x5 ⟨rfl, g⟩
      have hS := chain hS g
      clear g
      go_wp2_with fail
      go_ret
      exact ⟨rfl, chain BW.out hS⟩
    | true =>
      rw [hm] at RY0 MY0
      have RM1 := RM0
      obtain ⟨N1, hN1⟩ : ∃ N, N = wtL (allN sF.lv 16) := ⟨_, rfl⟩
      obtain ⟨LL, hLL⟩ : ∃ N, N = allN sF.lv 16 := ⟨_, rfl⟩
      have hb4 := mayS_by hm
      have hft := mayS_fits hm
      unfold fitsB at hft
      rw [sumT_wt (mayS_t hm), sumT_len (mayS_t hm), ← hN1, ← hLL] at hft
      simp only [Bool.and_eq_true, decide_eq_true_eq] at hft
      have WT1 := fun W (g : Below WS.heap.size WS W) => WT0 W g (mayS_t hm)
      rw [← hN1] at WT1
      rw [← hLL] at AL0
      obtain ⟨B, hB⟩ : ∃ B, B = sF.by_ := ⟨_, rfl⟩
      obtain ⟨K9, hK9⟩ : ∃ B, B = sF.ke := ⟨_, rfl⟩
      obtain ⟨D1, hD1⟩ : ∃ D, D = B - (N1 : Int) := ⟨_, rfl⟩
      obtain ⟨N2, hN2⟩ : ∃ D, D = LL.length := ⟨_, rfl⟩
      obtain ⟨D2, hD2⟩ : ∃ D, D = K9 - (N2 : Int) := ⟨_, rfl⟩
      rw [← hN2, ← hB, ← hK9] at hft
      rw [← hB, ← hK9] at hb4
      have H33 := Lib.hid (show CF[33]? = some (.int .i64 B) by rw [hB]; exact RS.out.by_)
      have H34 := Lib.hid (show CF[34]? = some (.int .i64 K9) by rw [hK9]; exact RS.out.ke)
      have hw1 : IntKind.i64.wrap (B - (N1 : Int)) = D1 := by rw [IntKind.wrap_i64]; omega
      have hw2 : IntKind.i64.wrap (K9 - (N2 : Int)) = D2 := by rw [IntKind.wrap_i64]; omega
      have RM := Lib.hid (fun W (g : Below WS.heap.size WS W) => show Calls Tryd.prog 17 #[.agg CF] W fun e w' => e = .returned (.tuple #[.int .i64 D1, .int .i64 D2]) ∧ Below W.heap.size W w' by
        have := RM0 W g
        unfold RoomZ at this
        rw [if_pos hm, if_pos hm, sumT_wt (mayS_t hm), sumT_len (mayS_t hm), ← hN1, ← hLL, ← hN2, ← hB, ← hK9, ← hD1, ← hD2] at this
        exact this)
      have SM := Lib.hid (fun W (g : Below WS.heap.size WS W) => show Calls Tryd.prog 20 #[.agg CF, .agg CF] W fun e w' => e = .returned (.bool true) ∧ Below W.heap.size W w' by
        have := SM0 W g
        rw [pSame_self hm] at this
        exact this)
      have AL := Lib.hid (fun W (g : Below WS.heap.size WS W) => show Calls Tryd.prog 23 #[.agg (tC CF)] W fun e w' => ∃ v', e = .returned v' ∧ w'.ownsRow W.heap.size 53 5 v' N2 (LL.flatMap itC) ∧ Below W.heap.size W w' by
        have := AL0 W g
        unfold OwnI at this
        rw [← hN2] at this
        exact this)
      have WT := Lib.hid WT1
      have RY := Lib.hid RY0
      have MY := Lib.hid MY0
      clear RM0 RM1 SM0 RY0 MY0 WT0 WT1 AL0 hm hN1 hN2 hLL hB hK9 hD1 hD2 hft hb4
      go_wp2_with ((with_reducible refine wpList_load_row (o := ⟨some 51, _, _, _, _, _⟩) rfl 28 (.tmp 5) rfl _ rfl _ CF (0, 0) _ q5 Tryd.underlying28 rfl hsF ?_))
      refine (RM.out _ hS).mono ?_
      rintro e x1 ⟨rfl, g⟩
      have q5 := (g.block _ (lt_of_block q5)).trans q5
      have hS := chain hS g
      clear g
      go_wp2_with ((with_reducible refine wpList_load_row (o := ⟨some 55, _, _, _, _, _⟩) rfl 28 (.tmp 5) rfl _ rfl _ CF (0, 0) _ q5 Tryd.underlying28 rfl hsF ?_))
      refine (RY.out _ hS).mono ?_
      rintro e x2 ⟨rfl, g⟩
      have q5 := (g.block _ (lt_of_block q5)).trans q5
      have hS := chain hS g
      clear g
      go_wp2_with fail
      refine g_start (by kernel_rfl) ?_
      refine g_take (i := 0) (d := (some 78)) (v := ?_) rfl rfl (by kernel_rfl) (fun _ _ _ h => h) (by rfl) (fun w' hb' => ?_) ?_
      rotate_left
      · (refine load_row_op _ _ (.tmp 5) ?_ ?_ ((hb'.block _ (lt_of_block q5)).trans q5) Tryd.underlying28 ?_ hsF <;> rfl); (try go_simp); (try with_reducible rfl)
      try simp only [Act.put, List.setIfInBounds_toArray, List.set_cons_zero, List.set_cons_succ]
      refine g_run (i := 1) rfl (by kernel_rfl) (by rfl) (fun K hK => ?_)
      go_simp; refine (MY.out _ (Below.drew hS)).mono ?_; rintro e u1 ⟨rfl, gg⟩; have hS := chain (Below.drew hS) gg; have q5 := (gg.block _ (lt_of_block q5)).trans q5; refine hK _ _ ⟨gg, ?_⟩; clear hK K gg
      try simp only [Act.put, List.setIfInBounds_toArray, List.set_cons_zero, List.set_cons_succ]
      refine g_take (i := 2) (d := (some 80)) (v := ?_) rfl rfl (by kernel_rfl) (fun _ _ _ h => h) (by rfl) (fun w' hb' => ?_) ?_
      rotate_left
      · (try go_simp); (try with_reducible rfl)
      try simp only [Act.put, List.setIfInBounds_toArray, List.set_cons_zero, List.set_cons_succ]
      refine g_take (i := 3) (d := (some 81)) (v := ?_) rfl rfl (by kernel_rfl) (fun _ _ _ h => h) (by rfl) (fun w' hb' => ?_) ?_
      rotate_left
      · (try go_simp); (try with_reducible rfl)
      try simp only [Act.put, List.setIfInBounds_toArray, List.set_cons_zero, List.set_cons_succ]
      refine g_take (i := 4) (d := (some 82)) (v := ?_) rfl rfl (by kernel_rfl) (fun _ _ _ h => h) (by rfl) (fun w' hb' => ?_) ?_
      rotate_left
      · (try go_simp); (try with_reducible rfl)
      try simp only [Act.put, List.setIfInBounds_toArray, List.set_cons_zero, List.set_cons_succ]
      refine g_take (i := 5) (d := (some 83)) (v := ?_) rfl rfl (by kernel_rfl) (fun _ _ _ h => h) (by rfl) (fun w' hb' => ?_) ?_
      rotate_left
      · have zz := (block_cell ((hb'.block _ (lt_of_block q5)).trans q5) 33).trans H33.out; (try go_simp); (try with_reducible rfl)
      try simp only [Act.put, List.setIfInBounds_toArray, List.set_cons_zero, List.set_cons_succ]
      refine g_take (i := 6) (d := (some 84)) (v := ?_) rfl rfl (by kernel_rfl) (fun _ _ _ h => h) (by rfl) (fun w' hb' => ?_) ?_
      rotate_left
      · (try go_simp); (try with_reducible rfl)
      try simp only [Act.put, List.setIfInBounds_toArray, List.set_cons_zero, List.set_cons_succ]
      refine g_take (i := 7) (d := (some 85)) (v := ?_) rfl rfl (by kernel_rfl) (fun _ _ _ h => h) (by rfl) (fun w' hb' => ?_) ?_
      rotate_left
      · (refine load_partO_op _ _ (.tmp 84) ?_ ?_ (tC_range ((hb'.block _ (lt_of_block q5)).trans q5)) Tryd.underlying26 ?_ (tC_infoA hszF) <;> rfl); (try go_simp); (try with_reducible rfl)
      try simp only [Act.put, List.setIfInBounds_toArray, List.set_cons_zero, List.set_cons_succ]
      refine g_run (i := 8) rfl (by kernel_rfl) (by rfl) (fun K hK => ?_)
      go_simp; refine (WT.out _ hS).mono ?_; rintro e u8 ⟨rfl, gg⟩; have hS := chain hS gg; have q5 := (gg.block _ (lt_of_block q5)).trans q5; refine hK _ _ ⟨gg, ?_⟩; clear hK K gg
      try simp only [Act.put, List.setIfInBounds_toArray, List.set_cons_zero, List.set_cons_succ]
      refine g_take (i := 9) (d := (some 87)) (v := ?_) rfl rfl (by kernel_rfl) (fun _ _ _ h => h) (by rfl) (fun w' hb' => ?_) ?_
      rotate_left
      · (try go_simp); (try with_reducible rfl)
      try simp only [Act.put, List.setIfInBounds_toArray, List.set_cons_zero, List.set_cons_succ]
      refine g_take (i := 10) (d := (some 88)) (v := ?_) rfl rfl (by kernel_rfl) (fun _ _ _ h => h) (by rfl) (fun w' hb' => ?_) ?_
      rotate_left
      · (try go_simp); (try with_reducible rfl)
      try simp only [Act.put, List.setIfInBounds_toArray, List.set_cons_zero, List.set_cons_succ]
      refine g_take (i := 11) (d := (some 89)) (v := ?_) rfl rfl (by kernel_rfl) (fun _ _ _ h => h) (by rfl) (fun w' hb' => ?_) ?_
      rotate_left
      · (try go_simp); (try with_reducible rfl)
      try simp only [Act.put, List.setIfInBounds_toArray, List.set_cons_zero, List.set_cons_succ]
      refine g_take (i := 12) (d := (some 90)) (v := ?_) rfl rfl (by kernel_rfl) (fun _ _ _ h => h) (by rfl) (fun w' hb' => ?_) ?_
      rotate_left
      · (try go_simp); (try with_reducible rfl)
      try simp only [Act.put, List.setIfInBounds_toArray, List.set_cons_zero, List.set_cons_succ]
      refine g_take (i := 13) (d := (some 91)) (v := ?_) rfl rfl (by kernel_rfl) (fun _ _ _ h => h) (by rfl) (fun w' hb' => ?_) ?_
      rotate_left
      · (try go_simp); (try with_reducible rfl)
      try simp only [Act.put, List.setIfInBounds_toArray, List.set_cons_zero, List.set_cons_succ]
      refine g_take (i := 14) (d := (some 92)) (v := ?_) rfl rfl (by kernel_rfl) (fun _ _ _ h => h) (by rfl) (fun w' hb' => ?_) ?_
      rotate_left
      · (try go_simp); (try with_reducible rfl)
      try simp only [Act.put, List.setIfInBounds_toArray, List.set_cons_zero, List.set_cons_succ]
      refine g_take (i := 15) (d := (some 93)) (v := ?_) rfl rfl (by kernel_rfl) (fun _ _ _ h => h) (by rfl) (fun w' hb' => ?_) ?_
      rotate_left
      · have zz := (block_cell ((hb'.block _ (lt_of_block q5)).trans q5) 34).trans H34.out; (try go_simp); (try with_reducible rfl)
      try simp only [Act.put, List.setIfInBounds_toArray, List.set_cons_zero, List.set_cons_succ]
      refine g_take (i := 16) (d := (some 94)) (v := ?_) rfl rfl (by kernel_rfl) (fun _ _ _ h => h) (by rfl) (fun w' hb' => ?_) ?_
      rotate_left
      · (try go_simp); (try with_reducible rfl)
      try simp only [Act.put, List.setIfInBounds_toArray, List.set_cons_zero, List.set_cons_succ]
      refine g_take (i := 17) (d := (some 95)) (v := ?_) rfl rfl (by kernel_rfl) (fun _ _ _ h => h) (by rfl) (fun w' hb' => ?_) ?_
      rotate_left
      · (refine load_partO_op _ _ (.tmp 94) ?_ ?_ (tC_range ((hb'.block _ (lt_of_block q5)).trans q5)) Tryd.underlying26 ?_ (tC_infoA hszF) <;> rfl); (try go_simp); (try with_reducible rfl)
      try simp only [Act.put, List.setIfInBounds_toArray, List.set_cons_zero, List.set_cons_succ]
      refine g_run (i := 18) rfl (by kernel_rfl) (by rfl) (fun K hK => ?_)
      go_simp; refine (AL.out _ hS).mono ?_; rintro e u18 ⟨vl, rfl, own9, gg⟩; obtain ⟨al, cl, rfl⟩ := own_slice_n own9; clear own9; have hS := chain hS gg; have q5 := (gg.block _ (lt_of_block q5)).trans q5; refine hK _ _ ⟨gg, ?_⟩; clear hK K gg
      try simp only [Act.put, List.setIfInBounds_toArray, List.set_cons_zero, List.set_cons_succ]
      refine g_take (i := 19) (d := (some 97)) (v := ?_) rfl rfl (by kernel_rfl) (fun _ _ _ h => h) (by rfl) (fun w' hb' => ?_) ?_
      rotate_left
      · (try go_simp); (try with_reducible rfl)
      try simp only [Act.put, List.setIfInBounds_toArray, List.set_cons_zero, List.set_cons_succ]
      refine g_take (i := 20) (d := (some 98)) (v := ?_) rfl rfl (by kernel_rfl) (fun _ _ _ h => h) (by rfl) (fun w' hb' => ?_) ?_
      rotate_left
      · (try go_simp); (try with_reducible rfl)
      try simp only [Act.put, List.setIfInBounds_toArray, List.set_cons_zero, List.set_cons_succ]
      refine g_take (i := 21) (d := (some 99)) (v := ?_) rfl rfl (by kernel_rfl) (fun _ _ _ h => h) (by rfl) (fun w' hb' => ?_) ?_
      rotate_left
      · (try go_simp); (try with_reducible rfl)
      try simp only [Act.put, List.setIfInBounds_toArray, List.set_cons_zero, List.set_cons_succ]
      refine g_take (i := 22) (d := (some 100)) (v := ?_) rfl rfl (by kernel_rfl) (fun _ _ _ h => h) (by rfl) (fun w' hb' => ?_) ?_
      rotate_left
      · (try go_simp); (try with_reducible rfl)
      try simp only [Act.put, List.setIfInBounds_toArray, List.set_cons_zero, List.set_cons_succ]
      refine g_take (i := 23) (d := (some 101)) (v := ?_) rfl rfl (by kernel_rfl) (fun _ _ _ h => h) (by rfl) (fun w' hb' => ?_) ?_
      rotate_left
      · (try go_simp); (try with_reducible rfl)
      try simp only [Act.put, List.setIfInBounds_toArray, List.set_cons_zero, List.set_cons_succ]
      refine g_take (i := 24) (d := (some 102)) (v := ?_) rfl rfl (by kernel_rfl) (fun _ _ _ h => h) (by rfl) (fun w' hb' => ?_) ?_
      rotate_left
      · (refine load_row_op _ _ (.tmp 5) ?_ ?_ ((hb'.block _ (lt_of_block q5)).trans q5) Tryd.underlying28 ?_ hsF <;> rfl); (try go_simp); (try with_reducible rfl)
      try simp only [Act.put, List.setIfInBounds_toArray, List.set_cons_zero, List.set_cons_succ]
      refine g_take (i := 25) (d := (some 103)) (v := ?_) rfl rfl (by kernel_rfl) (fun _ _ _ h => h) (by rfl) (fun w' hb' => ?_) ?_
      rotate_left
      · (refine load_row_op _ _ (.tmp 5) ?_ ?_ ((hb'.block _ (lt_of_block q5)).trans q5) Tryd.underlying28 ?_ hsF <;> rfl); (try go_simp); (try with_reducible rfl)
      try simp only [Act.put, List.setIfInBounds_toArray, List.set_cons_zero, List.set_cons_succ]
      refine g_run (i := 26) rfl (by kernel_rfl) (by rfl) (fun K hK => ?_)
      go_simp; refine (SM.out _ hS).mono ?_; rintro e u26 ⟨rfl, gg⟩; have hS := chain hS gg; have q5 := (gg.block _ (lt_of_block q5)).trans q5; refine hK _ _ ⟨gg, ?_⟩; clear hK K gg
      try simp only [Act.put, List.setIfInBounds_toArray, List.set_cons_zero, List.set_cons_succ]
      refine g_take (i := 27) (d := (some 105)) (v := ?_) rfl rfl (by kernel_rfl) (fun _ _ _ h => h) (by rfl) (fun w' hb' => ?_) ?_
      rotate_left
      · (try go_simp); (try with_reducible rfl)
      try simp only [Act.put, List.setIfInBounds_toArray, List.set_cons_zero, List.set_cons_succ]
      refine g_take (i := 28) (d := (some 106)) (v := ?_) rfl rfl (by kernel_rfl) (fun _ _ _ h => h) (by rfl) (fun w' hb' => ?_) ?_
      rotate_left
      · (try go_simp); (try with_reducible rfl)
      try simp only [Act.put, List.setIfInBounds_toArray, List.set_cons_zero, List.set_cons_succ]
      refine g_run (i := 29) rfl (by kernel_rfl) (by rfl) (fun K hK => ?_)
      go_simp; refine (AW.out _ hS).mono ?_; rintro e u29 ⟨rfl, gg⟩; have hS := chain hS gg; have q5 := (gg.block _ (lt_of_block q5)).trans q5; refine hK _ _ ⟨gg, ?_⟩; clear hK K gg
      try simp only [Act.put, List.setIfInBounds_toArray, List.set_cons_zero, List.set_cons_succ]
      refine g_take (i := 30) (d := (some 108)) (v := ?_) rfl rfl (by kernel_rfl) (fun _ _ _ h => h) (by rfl) (fun w' hb' => ?_) ?_
      rotate_left
      · (try go_simp); (try with_reducible rfl)
      try simp only [Act.put, List.setIfInBounds_toArray, List.set_cons_zero, List.set_cons_succ]
      refine g_take (i := 31) (d := (some 6)) (v := ?_) rfl rfl (by kernel_rfl) (fun _ _ _ h => h) (by rfl) (fun w' hb' => ?_) ?_
      rotate_left
      · (try go_simp); (try with_reducible rfl)
      try simp only [Act.put, List.setIfInBounds_toArray, List.set_cons_zero, List.set_cons_succ]
      refine g_done (by kernel_rfl) ?_
    
      go_wp2_with fail
      go_ret
      exact ⟨rfl, chain BW.out hS⟩
  by_cases c1 : 65536 < b
  · skip
    have t0 : decide (b < 0) = false := decide_eq_false c0
    have t1 : decide (65536 < b) = true := decide_eq_true c1
    have hnb : newB b k = false := by
      unfold newB rngB
      rw [Bool.eq_false_iff]; intro hh; simp only [Bool.and_eq_true, decide_eq_true_eq] at hh; omega
    have NW := Lib.hid (show Calls Tryd.prog 14 #[.int .i64 b, .int .i64 k] WS fun e w' => e = .returned (.tuple #[.agg zS, .int .i64 1]) ∧ Below WS.heap.size WS w' by
      have := NW0
      unfold NewZ at this
      rw [if_neg (by rw [hnb]; decide), if_neg (by rw [hnb]; decide)] at this
      exact this)
    clear NW0 hnb c0 c1
    go_wp2_with fail
    refine (NW.out).mono ?_
    rintro e x0 ⟨rfl, g⟩
    have q5 := (g.block _ (lt_of_block q5)).trans q5
    have hS := chain hS g
    clear g
    have qd7 := heap_alloc_new x0 (.cells zS 28)
    go_wp2_with (first | ((with_reducible refine wpList_store_row (o := ⟨none, _, _, _, _, _⟩) rfl 28 (.tmp 7) (.tmp 17) rfl _ zS rfl rfl _ zS qd7 (infoS zS_size) rfl zS_one ?_); (obtain ⟨y0, hWn⟩ : ∃ W, W = (World.alloc x0 (.cells zS 28)).setRow x0.heap.size zS := ⟨_, rfl⟩); rw [← hWn]; (have q7 : y0.heap[x0.heap.size]? = some (.cells zS 28 (0, 0)) := by rw [hWn]; exact setRow_heap _ _ _ zS _ _ qd7); (have gn : Below x0.heap.size x0 y0 := by rw [hWn]; exact below_row ((Below.refl _ _).alloc (Nat.le_refl _) _) (Nat.le_refl _) zS); clear hWn qd7; (have hS := chain hS gn); (have q5 := (gn.block _ (lt_of_block q5)).trans q5); clear gn) | ((with_reducible refine wpList_load_row (o := ⟨some 33, _, _, _, _, _⟩) rfl 28 (.tmp 7) rfl _ rfl _ zS (0, 0) _ q7 Tryd.underlying28 rfl (infoS zS_size) ?_)))
    refine (NN.out _ hS).mono ?_
    rintro e y1 ⟨rfl, g⟩
    have q5 := (g.block _ (lt_of_block q5)).trans q5
    have hS := chain hS g
    clear g
    clear q7
    cases hm : mayS sF with
    | false =>
      rw [hm] at RY0 MY0
      have RM := Lib.hid (fun W (g : Below WS.heap.size WS W) => show Calls Tryd.prog 17 #[.agg CF] W fun e w' => e = .returned (.tuple #[.int .i64 0, .int .i64 0]) ∧ Below W.heap.size W w' by
        have := RM0 W g
        unfold RoomZ at this
        rw [if_neg (by rw [hm]; decide), if_neg (by rw [hm]; decide)] at this
        exact this)
      have SM := Lib.hid (fun W (g : Below WS.heap.size WS W) => show Calls Tryd.prog 20 #[.agg CF, .agg CF] W fun e w' => e = .returned (.bool false) ∧ Below W.heap.size W w' by
        have := SM0 W g
        rw [pSame_no hm] at this
        exact this)
      have RY := Lib.hid RY0
      have MY := Lib.hid MY0
      clear RM0 SM0 RY0 MY0 WT0 AL0 hm
      go_wp2_with ((with_reducible refine wpList_load_row (o := ⟨some 51, _, _, _, _, _⟩) rfl 28 (.tmp 5) rfl _ rfl _ CF (0, 0) _ q5 Tryd.underlying28 rfl hsF ?_))
      refine (RM.out _ hS).mono ?_
      rintro e x1 ⟨rfl, g⟩
      have q5 := (g.block _ (lt_of_block q5)).trans q5
      have hS := chain hS g
      clear g
      go_wp2_with ((with_reducible refine wpList_load_row (o := ⟨some 55, _, _, _, _, _⟩) rfl 28 (.tmp 5) rfl _ rfl _ CF (0, 0) _ q5 Tryd.underlying28 rfl hsF ?_))
      refine (RY.out _ hS).mono ?_
      rintro e x2 ⟨rfl, g⟩
      have q5 := (g.block _ (lt_of_block q5)).trans q5
      have hS := chain hS g
      clear g
      go_wp2_with ((with_reducible refine wpList_load_row (o := ⟨some 58, _, _, _, _, _⟩) rfl 28 (.tmp 5) rfl _ rfl _ CF (0, 0) _ q5 Tryd.underlying28 rfl hsF ?_))
      refine (MY.out _ hS).mono ?_
      rintro e x3 ⟨rfl, g⟩
      have q5 := (g.block _ (lt_of_block q5)).trans q5
      have hS := chain hS g
      clear g
      go_wp2_with (first | ((with_reducible refine wpList_load_row_g (o := ⟨some 70, _, _, _, _, _⟩) ?_ 28 (.tmp 5) rfl _ rfl _ CF (0, 0) _ q5 Tryd.underlying28 rfl hsF ?_); rfl) | ((with_reducible refine wpList_load_row_g (o := ⟨some 71, _, _, _, _, _⟩) ?_ 28 (.tmp 5) rfl _ rfl _ CF (0, 0) _ q5 Tryd.underlying28 rfl hsF ?_); rfl))
      refine (SM.out _ hS).mono ?_
      rintro e x4 ⟨rfl, g⟩
      have q5 := (g.block _ (lt_of_block q5)).trans q5
      have hS := chain hS g
      clear g
      go_wp2_with fail
      refine (AW.out _ hS).mono ?_
      rintro e x5 ⟨rfl, g⟩
      have hS := chain hS g
      clear g
      go_wp2_with fail
      go_ret
      exact ⟨rfl, chain BW.out hS⟩
    | true =>
      rw [hm] at RY0 MY0
      have RM1 := RM0
      obtain ⟨N1, hN1⟩ : ∃ N, N = wtL (allN sF.lv 16) := ⟨_, rfl⟩
      obtain ⟨LL, hLL⟩ : ∃ N, N = allN sF.lv 16 := ⟨_, rfl⟩
      have hb4 := mayS_by hm
      have hft := mayS_fits hm
      unfold fitsB at hft
      rw [sumT_wt (mayS_t hm), sumT_len (mayS_t hm), ← hN1, ← hLL] at hft
      simp only [Bool.and_eq_true, decide_eq_true_eq] at hft
      have WT1 := fun W (g : Below WS.heap.size WS W) => WT0 W g (mayS_t hm)
      rw [← hN1] at WT1
      rw [← hLL] at AL0
      obtain ⟨B, hB⟩ : ∃ B, B = sF.by_ := ⟨_, rfl⟩
      obtain ⟨K9, hK9⟩ : ∃ B, B = sF.ke := ⟨_, rfl⟩
      obtain ⟨D1, hD1⟩ : ∃ D, D = B - (N1 : Int) := ⟨_, rfl⟩
      obtain ⟨N2, hN2⟩ : ∃ D, D = LL.length := ⟨_, rfl⟩
      obtain ⟨D2, hD2⟩ : ∃ D, D = K9 - (N2 : Int) := ⟨_, rfl⟩
      rw [← hN2, ← hB, ← hK9] at hft
      rw [← hB, ← hK9] at hb4
      have H33 := Lib.hid (show CF[33]? = some (.int .i64 B) by rw [hB]; exact RS.out.by_)
      have H34 := Lib.hid (show CF[34]? = some (.int .i64 K9) by rw [hK9]; exact RS.out.ke)
      have hw1 : IntKind.i64.wrap (B - (N1 : Int)) = D1 := by rw [IntKind.wrap_i64]; omega
      have hw2 : IntKind.i64.wrap (K9 - (N2 : Int)) = D2 := by rw [IntKind.wrap_i64]; omega
      have RM := Lib.hid (fun W (g : Below WS.heap.size WS W) => show Calls Tryd.prog 17 #[.agg CF] W fun e w' => e = .returned (.tuple #[.int .i64 D1, .int .i64 D2]) ∧ Below W.heap.size W w' by
        have := RM0 W g
        unfold RoomZ at this
        rw [if_pos hm, if_pos hm, sumT_wt (mayS_t hm), sumT_len (mayS_t hm), ← hN1, ← hLL, ← hN2, ← hB, ← hK9, ← hD1, ← hD2] at this
        exact this)
      have SM := Lib.hid (fun W (g : Below WS.heap.size WS W) => show Calls Tryd.prog 20 #[.agg CF, .agg CF] W fun e w' => e = .returned (.bool true) ∧ Below W.heap.size W w' by
        have := SM0 W g
        rw [pSame_self hm] at this
        exact this)
      have AL := Lib.hid (fun W (g : Below WS.heap.size WS W) => show Calls Tryd.prog 23 #[.agg (tC CF)] W fun e w' => ∃ v', e = .returned v' ∧ w'.ownsRow W.heap.size 53 5 v' N2 (LL.flatMap itC) ∧ Below W.heap.size W w' by
        have := AL0 W g
        unfold OwnI at this
        rw [← hN2] at this
        exact this)
      have WT := Lib.hid WT1
      have RY := Lib.hid RY0
      have MY := Lib.hid MY0
      clear RM0 RM1 SM0 RY0 MY0 WT0 WT1 AL0 hm hN1 hN2 hLL hB hK9 hD1 hD2 hft hb4
      go_wp2_with ((with_reducible refine wpList_load_row (o := ⟨some 51, _, _, _, _, _⟩) rfl 28 (.tmp 5) rfl _ rfl _ CF (0, 0) _ q5 Tryd.underlying28 rfl hsF ?_))
      refine (RM.out _ hS).mono ?_
      rintro e x1 ⟨rfl, g⟩
      have q5 := (g.block _ (lt_of_block q5)).trans q5
      have hS := chain hS g
      clear g
      go_wp2_with ((with_reducible refine wpList_load_row (o := ⟨some 55, _, _, _, _, _⟩) rfl 28 (.tmp 5) rfl _ rfl _ CF (0, 0) _ q5 Tryd.underlying28 rfl hsF ?_))
      refine (RY.out _ hS).mono ?_
      rintro e x2 ⟨rfl, g⟩
      have q5 := (g.block _ (lt_of_block q5)).trans q5
      have hS := chain hS g
      clear g
      go_wp2_with fail
      refine g_start (by kernel_rfl) ?_
      refine g_take (i := 0) (d := (some 78)) (v := ?_) rfl rfl (by kernel_rfl) (fun _ _ _ h => h) (by rfl) (fun w' hb' => ?_) ?_
      rotate_left
      · (refine load_row_op _ _ (.tmp 5) ?_ ?_ ((hb'.block _ (lt_of_block q5)).trans q5) Tryd.underlying28 ?_ hsF <;> rfl); (try go_simp); (try with_reducible rfl)
      try simp only [Act.put, List.setIfInBounds_toArray, List.set_cons_zero, List.set_cons_succ]
      refine g_run (i := 1) rfl (by kernel_rfl) (by rfl) (fun K hK => ?_)
      go_simp; refine (MY.out _ (Below.drew hS)).mono ?_; rintro e u1 ⟨rfl, gg⟩; have hS := chain (Below.drew hS) gg; have q5 := (gg.block _ (lt_of_block q5)).trans q5; refine hK _ _ ⟨gg, ?_⟩; clear hK K gg
      try simp only [Act.put, List.setIfInBounds_toArray, List.set_cons_zero, List.set_cons_succ]
      refine g_take (i := 2) (d := (some 80)) (v := ?_) rfl rfl (by kernel_rfl) (fun _ _ _ h => h) (by rfl) (fun w' hb' => ?_) ?_
      rotate_left
      · (try go_simp); (try with_reducible rfl)
      try simp only [Act.put, List.setIfInBounds_toArray, List.set_cons_zero, List.set_cons_succ]
      refine g_take (i := 3) (d := (some 81)) (v := ?_) rfl rfl (by kernel_rfl) (fun _ _ _ h => h) (by rfl) (fun w' hb' => ?_) ?_
      rotate_left
      · (try go_simp); (try with_reducible rfl)
      try simp only [Act.put, List.setIfInBounds_toArray, List.set_cons_zero, List.set_cons_succ]
      refine g_take (i := 4) (d := (some 82)) (v := ?_) rfl rfl (by kernel_rfl) (fun _ _ _ h => h) (by rfl) (fun w' hb' => ?_) ?_
      rotate_left
      · (try go_simp); (try with_reducible rfl)
      try simp only [Act.put, List.setIfInBounds_toArray, List.set_cons_zero, List.set_cons_succ]
      refine g_take (i := 5) (d := (some 83)) (v := ?_) rfl rfl (by kernel_rfl) (fun _ _ _ h => h) (by rfl) (fun w' hb' => ?_) ?_
      rotate_left
      · have zz := (block_cell ((hb'.block _ (lt_of_block q5)).trans q5) 33).trans H33.out; (try go_simp); (try with_reducible rfl)
      try simp only [Act.put, List.setIfInBounds_toArray, List.set_cons_zero, List.set_cons_succ]
      refine g_take (i := 6) (d := (some 84)) (v := ?_) rfl rfl (by kernel_rfl) (fun _ _ _ h => h) (by rfl) (fun w' hb' => ?_) ?_
      rotate_left
      · (try go_simp); (try with_reducible rfl)
      try simp only [Act.put, List.setIfInBounds_toArray, List.set_cons_zero, List.set_cons_succ]
      refine g_take (i := 7) (d := (some 85)) (v := ?_) rfl rfl (by kernel_rfl) (fun _ _ _ h => h) (by rfl) (fun w' hb' => ?_) ?_
      rotate_left
      · (refine load_partO_op _ _ (.tmp 84) ?_ ?_ (tC_range ((hb'.block _ (lt_of_block q5)).trans q5)) Tryd.underlying26 ?_ (tC_infoA hszF) <;> rfl); (try go_simp); (try with_reducible rfl)
      try simp only [Act.put, List.setIfInBounds_toArray, List.set_cons_zero, List.set_cons_succ]
      refine g_run (i := 8) rfl (by kernel_rfl) (by rfl) (fun K hK => ?_)
      go_simp; refine (WT.out _ hS).mono ?_; rintro e u8 ⟨rfl, gg⟩; have hS := chain hS gg; have q5 := (gg.block _ (lt_of_block q5)).trans q5; refine hK _ _ ⟨gg, ?_⟩; clear hK K gg
      try simp only [Act.put, List.setIfInBounds_toArray, List.set_cons_zero, List.set_cons_succ]
      refine g_take (i := 9) (d := (some 87)) (v := ?_) rfl rfl (by kernel_rfl) (fun _ _ _ h => h) (by rfl) (fun w' hb' => ?_) ?_
      rotate_left
      · (try go_simp); (try with_reducible rfl)
      try simp only [Act.put, List.setIfInBounds_toArray, List.set_cons_zero, List.set_cons_succ]
      refine g_take (i := 10) (d := (some 88)) (v := ?_) rfl rfl (by kernel_rfl) (fun _ _ _ h => h) (by rfl) (fun w' hb' => ?_) ?_
      rotate_left
      · (try go_simp); (try with_reducible rfl)
      try simp only [Act.put, List.setIfInBounds_toArray, List.set_cons_zero, List.set_cons_succ]
      refine g_take (i := 11) (d := (some 89)) (v := ?_) rfl rfl (by kernel_rfl) (fun _ _ _ h => h) (by rfl) (fun w' hb' => ?_) ?_
      rotate_left
      · (try go_simp); (try with_reducible rfl)
      try simp only [Act.put, List.setIfInBounds_toArray, List.set_cons_zero, List.set_cons_succ]
      refine g_take (i := 12) (d := (some 90)) (v := ?_) rfl rfl (by kernel_rfl) (fun _ _ _ h => h) (by rfl) (fun w' hb' => ?_) ?_
      rotate_left
      · (try go_simp); (try with_reducible rfl)
      try simp only [Act.put, List.setIfInBounds_toArray, List.set_cons_zero, List.set_cons_succ]
      refine g_take (i := 13) (d := (some 91)) (v := ?_) rfl rfl (by kernel_rfl) (fun _ _ _ h => h) (by rfl) (fun w' hb' => ?_) ?_
      rotate_left
      · (try go_simp); (try with_reducible rfl)
      try simp only [Act.put, List.setIfInBounds_toArray, List.set_cons_zero, List.set_cons_succ]
      refine g_take (i := 14) (d := (some 92)) (v := ?_) rfl rfl (by kernel_rfl) (fun _ _ _ h => h) (by rfl) (fun w' hb' => ?_) ?_
      rotate_left
      · (try go_simp); (try with_reducible rfl)
      try simp only [Act.put, List.setIfInBounds_toArray, List.set_cons_zero, List.set_cons_succ]
      refine g_take (i := 15) (d := (some 93)) (v := ?_) rfl rfl (by kernel_rfl) (fun _ _ _ h => h) (by rfl) (fun w' hb' => ?_) ?_
      rotate_left
      · have zz := (block_cell ((hb'.block _ (lt_of_block q5)).trans q5) 34).trans H34.out; (try go_simp); (try with_reducible rfl)
      try simp only [Act.put, List.setIfInBounds_toArray, List.set_cons_zero, List.set_cons_succ]
      refine g_take (i := 16) (d := (some 94)) (v := ?_) rfl rfl (by kernel_rfl) (fun _ _ _ h => h) (by rfl) (fun w' hb' => ?_) ?_
      rotate_left
      · (try go_simp); (try with_reducible rfl)
      try simp only [Act.put, List.setIfInBounds_toArray, List.set_cons_zero, List.set_cons_succ]
      refine g_take (i := 17) (d := (some 95)) (v := ?_) rfl rfl (by kernel_rfl) (fun _ _ _ h => h) (by rfl) (fun w' hb' => ?_) ?_
      rotate_left
      · (refine load_partO_op _ _ (.tmp 94) ?_ ?_ (tC_range ((hb'.block _ (lt_of_block q5)).trans q5)) Tryd.underlying26 ?_ (tC_infoA hszF) <;> rfl); (try go_simp); (try with_reducible rfl)
      try simp only [Act.put, List.setIfInBounds_toArray, List.set_cons_zero, List.set_cons_succ]
      refine g_run (i := 18) rfl (by kernel_rfl) (by rfl) (fun K hK => ?_)
      go_simp; refine (AL.out _ hS).mono ?_; rintro e u18 ⟨vl, rfl, own9, gg⟩; obtain ⟨al, cl, rfl⟩ := own_slice_n own9; clear own9; have hS := chain hS gg; have q5 := (gg.block _ (lt_of_block q5)).trans q5; refine hK _ _ ⟨gg, ?_⟩; clear hK K gg
      try simp only [Act.put, List.setIfInBounds_toArray, List.set_cons_zero, List.set_cons_succ]
      refine g_take (i := 19) (d := (some 97)) (v := ?_) rfl rfl (by kernel_rfl) (fun _ _ _ h => h) (by rfl) (fun w' hb' => ?_) ?_
      rotate_left
      · (try go_simp); (try with_reducible rfl)
      try simp only [Act.put, List.setIfInBounds_toArray, List.set_cons_zero, List.set_cons_succ]
      refine g_take (i := 20) (d := (some 98)) (v := ?_) rfl rfl (by kernel_rfl) (fun _ _ _ h => h) (by rfl) (fun w' hb' => ?_) ?_
      rotate_left
      · (try go_simp); (try with_reducible rfl)
      try simp only [Act.put, List.setIfInBounds_toArray, List.set_cons_zero, List.set_cons_succ]
      refine g_take (i := 21) (d := (some 99)) (v := ?_) rfl rfl (by kernel_rfl) (fun _ _ _ h => h) (by rfl) (fun w' hb' => ?_) ?_
      rotate_left
      · (try go_simp); (try with_reducible rfl)
      try simp only [Act.put, List.setIfInBounds_toArray, List.set_cons_zero, List.set_cons_succ]
      refine g_take (i := 22) (d := (some 100)) (v := ?_) rfl rfl (by kernel_rfl) (fun _ _ _ h => h) (by rfl) (fun w' hb' => ?_) ?_
      rotate_left
      · (try go_simp); (try with_reducible rfl)
      try simp only [Act.put, List.setIfInBounds_toArray, List.set_cons_zero, List.set_cons_succ]
      refine g_take (i := 23) (d := (some 101)) (v := ?_) rfl rfl (by kernel_rfl) (fun _ _ _ h => h) (by rfl) (fun w' hb' => ?_) ?_
      rotate_left
      · (try go_simp); (try with_reducible rfl)
      try simp only [Act.put, List.setIfInBounds_toArray, List.set_cons_zero, List.set_cons_succ]
      refine g_take (i := 24) (d := (some 102)) (v := ?_) rfl rfl (by kernel_rfl) (fun _ _ _ h => h) (by rfl) (fun w' hb' => ?_) ?_
      rotate_left
      · (refine load_row_op _ _ (.tmp 5) ?_ ?_ ((hb'.block _ (lt_of_block q5)).trans q5) Tryd.underlying28 ?_ hsF <;> rfl); (try go_simp); (try with_reducible rfl)
      try simp only [Act.put, List.setIfInBounds_toArray, List.set_cons_zero, List.set_cons_succ]
      refine g_take (i := 25) (d := (some 103)) (v := ?_) rfl rfl (by kernel_rfl) (fun _ _ _ h => h) (by rfl) (fun w' hb' => ?_) ?_
      rotate_left
      · (refine load_row_op _ _ (.tmp 5) ?_ ?_ ((hb'.block _ (lt_of_block q5)).trans q5) Tryd.underlying28 ?_ hsF <;> rfl); (try go_simp); (try with_reducible rfl)
      try simp only [Act.put, List.setIfInBounds_toArray, List.set_cons_zero, List.set_cons_succ]
      refine g_run (i := 26) rfl (by kernel_rfl) (by rfl) (fun K hK => ?_)
      go_simp; refine (SM.out _ hS).mono ?_; rintro e u26 ⟨rfl, gg⟩; have hS := chain hS gg; have q5 := (gg.block _ (lt_of_block q5)).trans q5; refine hK _ _ ⟨gg, ?_⟩; clear hK K gg
      try simp only [Act.put, List.setIfInBounds_toArray, List.set_cons_zero, List.set_cons_succ]
      refine g_take (i := 27) (d := (some 105)) (v := ?_) rfl rfl (by kernel_rfl) (fun _ _ _ h => h) (by rfl) (fun w' hb' => ?_) ?_
      rotate_left
      · (try go_simp); (try with_reducible rfl)
      try simp only [Act.put, List.setIfInBounds_toArray, List.set_cons_zero, List.set_cons_succ]
      refine g_take (i := 28) (d := (some 106)) (v := ?_) rfl rfl (by kernel_rfl) (fun _ _ _ h => h) (by rfl) (fun w' hb' => ?_) ?_
      rotate_left
      · (try go_simp); (try with_reducible rfl)
      try simp only [Act.put, List.setIfInBounds_toArray, List.set_cons_zero, List.set_cons_succ]
      refine g_run (i := 29) rfl (by kernel_rfl) (by rfl) (fun K hK => ?_)
      go_simp; refine (AW.out _ hS).mono ?_; rintro e u29 ⟨rfl, gg⟩; have hS := chain hS gg; have q5 := (gg.block _ (lt_of_block q5)).trans q5; refine hK _ _ ⟨gg, ?_⟩; clear hK K gg
      try simp only [Act.put, List.setIfInBounds_toArray, List.set_cons_zero, List.set_cons_succ]
      refine g_take (i := 30) (d := (some 108)) (v := ?_) rfl rfl (by kernel_rfl) (fun _ _ _ h => h) (by rfl) (fun w' hb' => ?_) ?_
      rotate_left
      · (try go_simp); (try with_reducible rfl)
      try simp only [Act.put, List.setIfInBounds_toArray, List.set_cons_zero, List.set_cons_succ]
      refine g_take (i := 31) (d := (some 6)) (v := ?_) rfl rfl (by kernel_rfl) (fun _ _ _ h => h) (by rfl) (fun w' hb' => ?_) ?_
      rotate_left
      · (try go_simp); (try with_reducible rfl)
      try simp only [Act.put, List.setIfInBounds_toArray, List.set_cons_zero, List.set_cons_succ]
      refine g_done (by kernel_rfl) ?_
    
      go_wp2_with fail
      go_ret
      exact ⟨rfl, chain BW.out hS⟩
  by_cases c2 : k < 0
  · skip
    have t0 : decide (b < 0) = false := decide_eq_false c0
    have t1 : decide (65536 < b) = false := decide_eq_false c1
    have t2 : decide (k < 0) = true := decide_eq_true c2
    have hnb : newB b k = false := by
      unfold newB rngB
      rw [Bool.eq_false_iff]; intro hh; simp only [Bool.and_eq_true, decide_eq_true_eq] at hh; omega
    have NW := Lib.hid (show Calls Tryd.prog 14 #[.int .i64 b, .int .i64 k] WS fun e w' => e = .returned (.tuple #[.agg zS, .int .i64 1]) ∧ Below WS.heap.size WS w' by
      have := NW0
      unfold NewZ at this
      rw [if_neg (by rw [hnb]; decide), if_neg (by rw [hnb]; decide)] at this
      exact this)
    clear NW0 hnb c0 c1 c2
    go_wp2_with fail
    refine (NW.out).mono ?_
    rintro e x0 ⟨rfl, g⟩
    have q5 := (g.block _ (lt_of_block q5)).trans q5
    have hS := chain hS g
    clear g
    have qd7 := heap_alloc_new x0 (.cells zS 28)
    go_wp2_with (first | ((with_reducible refine wpList_store_row (o := ⟨none, _, _, _, _, _⟩) rfl 28 (.tmp 7) (.tmp 17) rfl _ zS rfl rfl _ zS qd7 (infoS zS_size) rfl zS_one ?_); (obtain ⟨y0, hWn⟩ : ∃ W, W = (World.alloc x0 (.cells zS 28)).setRow x0.heap.size zS := ⟨_, rfl⟩); rw [← hWn]; (have q7 : y0.heap[x0.heap.size]? = some (.cells zS 28 (0, 0)) := by rw [hWn]; exact setRow_heap _ _ _ zS _ _ qd7); (have gn : Below x0.heap.size x0 y0 := by rw [hWn]; exact below_row ((Below.refl _ _).alloc (Nat.le_refl _) _) (Nat.le_refl _) zS); clear hWn qd7; (have hS := chain hS gn); (have q5 := (gn.block _ (lt_of_block q5)).trans q5); clear gn) | ((with_reducible refine wpList_load_row (o := ⟨some 33, _, _, _, _, _⟩) rfl 28 (.tmp 7) rfl _ rfl _ zS (0, 0) _ q7 Tryd.underlying28 rfl (infoS zS_size) ?_)))
    refine (NN.out _ hS).mono ?_
    rintro e y1 ⟨rfl, g⟩
    have q5 := (g.block _ (lt_of_block q5)).trans q5
    have hS := chain hS g
    clear g
    clear q7
    cases hm : mayS sF with
    | false =>
      rw [hm] at RY0 MY0
      have RM := Lib.hid (fun W (g : Below WS.heap.size WS W) => show Calls Tryd.prog 17 #[.agg CF] W fun e w' => e = .returned (.tuple #[.int .i64 0, .int .i64 0]) ∧ Below W.heap.size W w' by
        have := RM0 W g
        unfold RoomZ at this
        rw [if_neg (by rw [hm]; decide), if_neg (by rw [hm]; decide)] at this
        exact this)
      have SM := Lib.hid (fun W (g : Below WS.heap.size WS W) => show Calls Tryd.prog 20 #[.agg CF, .agg CF] W fun e w' => e = .returned (.bool false) ∧ Below W.heap.size W w' by
        have := SM0 W g
        rw [pSame_no hm] at this
        exact this)
      have RY := Lib.hid RY0
      have MY := Lib.hid MY0
      clear RM0 SM0 RY0 MY0 WT0 AL0 hm
      go_wp2_with ((with_reducible refine wpList_load_row (o := ⟨some 51, _, _, _, _, _⟩) rfl 28 (.tmp 5) rfl _ rfl _ CF (0, 0) _ q5 Tryd.underlying28 rfl hsF ?_))
      refine (RM.out _ hS).mono ?_
      rintro e x1 ⟨rfl, g⟩
      have q5 := (g.block _ (lt_of_block q5)).trans q5
      have hS := chain hS g
      clear g
      go_wp2_with ((with_reducible refine wpList_load_row (o := ⟨some 55, _, _, _, _, _⟩) rfl 28 (.tmp 5) rfl _ rfl _ CF (0, 0) _ q5 Tryd.underlying28 rfl hsF ?_))
      refine (RY.out _ hS).mono ?_
      rintro e x2 ⟨rfl, g⟩
      have q5 := (g.block _ (lt_of_block q5)).trans q5
      have hS := chain hS g
      clear g
      go_wp2_with ((with_reducible refine wpList_load_row (o := ⟨some 58, _, _, _, _, _⟩) rfl 28 (.tmp 5) rfl _ rfl _ CF (0, 0) _ q5 Tryd.underlying28 rfl hsF ?_))
      refine (MY.out _ hS).mono ?_
      rintro e x3 ⟨rfl, g⟩
      have q5 := (g.block _ (lt_of_block q5)).trans q5
      have hS := chain hS g
      clear g
      go_wp2_with (first | ((with_reducible refine wpList_load_row_g (o := ⟨some 70, _, _, _, _, _⟩) ?_ 28 (.tmp 5) rfl _ rfl _ CF (0, 0) _ q5 Tryd.underlying28 rfl hsF ?_); rfl) | ((with_reducible refine wpList_load_row_g (o := ⟨some 71, _, _, _, _, _⟩) ?_ 28 (.tmp 5) rfl _ rfl _ CF (0, 0) _ q5 Tryd.underlying28 rfl hsF ?_); rfl))
      refine (SM.out _ hS).mono ?_
      rintro e x4 ⟨rfl, g⟩
      have q5 := (g.block _ (lt_of_block q5)).trans q5
      have hS := chain hS g
      clear g
      go_wp2_with fail
      refine (AW.out _ hS).mono ?_
      rintro e x5 ⟨rfl, g⟩
      have hS := chain hS g
      clear g
      go_wp2_with fail
      go_ret
      exact ⟨rfl, chain BW.out hS⟩
    | true =>
      rw [hm] at RY0 MY0
      have RM1 := RM0
      obtain ⟨N1, hN1⟩ : ∃ N, N = wtL (allN sF.lv 16) := ⟨_, rfl⟩
      obtain ⟨LL, hLL⟩ : ∃ N, N = allN sF.lv 16 := ⟨_, rfl⟩
      have hb4 := mayS_by hm
      have hft := mayS_fits hm
      unfold fitsB at hft
      rw [sumT_wt (mayS_t hm), sumT_len (mayS_t hm), ← hN1, ← hLL] at hft
      simp only [Bool.and_eq_true, decide_eq_true_eq] at hft
      have WT1 := fun W (g : Below WS.heap.size WS W) => WT0 W g (mayS_t hm)
      rw [← hN1] at WT1
      rw [← hLL] at AL0
      obtain ⟨B, hB⟩ : ∃ B, B = sF.by_ := ⟨_, rfl⟩
      obtain ⟨K9, hK9⟩ : ∃ B, B = sF.ke := ⟨_, rfl⟩
      obtain ⟨D1, hD1⟩ : ∃ D, D = B - (N1 : Int) := ⟨_, rfl⟩
      obtain ⟨N2, hN2⟩ : ∃ D, D = LL.length := ⟨_, rfl⟩
      obtain ⟨D2, hD2⟩ : ∃ D, D = K9 - (N2 : Int) := ⟨_, rfl⟩
      rw [← hN2, ← hB, ← hK9] at hft
      rw [← hB, ← hK9] at hb4
      have H33 := Lib.hid (show CF[33]? = some (.int .i64 B) by rw [hB]; exact RS.out.by_)
      have H34 := Lib.hid (show CF[34]? = some (.int .i64 K9) by rw [hK9]; exact RS.out.ke)
      have hw1 : IntKind.i64.wrap (B - (N1 : Int)) = D1 := by rw [IntKind.wrap_i64]; omega
      have hw2 : IntKind.i64.wrap (K9 - (N2 : Int)) = D2 := by rw [IntKind.wrap_i64]; omega
      have RM := Lib.hid (fun W (g : Below WS.heap.size WS W) => show Calls Tryd.prog 17 #[.agg CF] W fun e w' => e = .returned (.tuple #[.int .i64 D1, .int .i64 D2]) ∧ Below W.heap.size W w' by
        have := RM0 W g
        unfold RoomZ at this
        rw [if_pos hm, if_pos hm, sumT_wt (mayS_t hm), sumT_len (mayS_t hm), ← hN1, ← hLL, ← hN2, ← hB, ← hK9, ← hD1, ← hD2] at this
        exact this)
      have SM := Lib.hid (fun W (g : Below WS.heap.size WS W) => show Calls Tryd.prog 20 #[.agg CF, .agg CF] W fun e w' => e = .returned (.bool true) ∧ Below W.heap.size W w' by
        have := SM0 W g
        rw [pSame_self hm] at this
        exact this)
      have AL := Lib.hid (fun W (g : Below WS.heap.size WS W) => show Calls Tryd.prog 23 #[.agg (tC CF)] W fun e w' => ∃ v', e = .returned v' ∧ w'.ownsRow W.heap.size 53 5 v' N2 (LL.flatMap itC) ∧ Below W.heap.size W w' by
        have := AL0 W g
        unfold OwnI at this
        rw [← hN2] at this
        exact this)
      have WT := Lib.hid WT1
      have RY := Lib.hid RY0
      have MY := Lib.hid MY0
      clear RM0 RM1 SM0 RY0 MY0 WT0 WT1 AL0 hm hN1 hN2 hLL hB hK9 hD1 hD2 hft hb4
      go_wp2_with ((with_reducible refine wpList_load_row (o := ⟨some 51, _, _, _, _, _⟩) rfl 28 (.tmp 5) rfl _ rfl _ CF (0, 0) _ q5 Tryd.underlying28 rfl hsF ?_))
      refine (RM.out _ hS).mono ?_
      rintro e x1 ⟨rfl, g⟩
      have q5 := (g.block _ (lt_of_block q5)).trans q5
      have hS := chain hS g
      clear g
      go_wp2_with ((with_reducible refine wpList_load_row (o := ⟨some 55, _, _, _, _, _⟩) rfl 28 (.tmp 5) rfl _ rfl _ CF (0, 0) _ q5 Tryd.underlying28 rfl hsF ?_))
      refine (RY.out _ hS).mono ?_
      rintro e x2 ⟨rfl, g⟩
      have q5 := (g.block _ (lt_of_block q5)).trans q5
      have hS := chain hS g
      clear g
      go_wp2_with fail
      refine g_start (by kernel_rfl) ?_
      refine g_take (i := 0) (d := (some 78)) (v := ?_) rfl rfl (by kernel_rfl) (fun _ _ _ h => h) (by rfl) (fun w' hb' => ?_) ?_
      rotate_left
      · (refine load_row_op _ _ (.tmp 5) ?_ ?_ ((hb'.block _ (lt_of_block q5)).trans q5) Tryd.underlying28 ?_ hsF <;> rfl); (try go_simp); (try with_reducible rfl)
      try simp only [Act.put, List.setIfInBounds_toArray, List.set_cons_zero, List.set_cons_succ]
      refine g_run (i := 1) rfl (by kernel_rfl) (by rfl) (fun K hK => ?_)
      go_simp; refine (MY.out _ (Below.drew hS)).mono ?_; rintro e u1 ⟨rfl, gg⟩; have hS := chain (Below.drew hS) gg; have q5 := (gg.block _ (lt_of_block q5)).trans q5; refine hK _ _ ⟨gg, ?_⟩; clear hK K gg
      try simp only [Act.put, List.setIfInBounds_toArray, List.set_cons_zero, List.set_cons_succ]
      refine g_take (i := 2) (d := (some 80)) (v := ?_) rfl rfl (by kernel_rfl) (fun _ _ _ h => h) (by rfl) (fun w' hb' => ?_) ?_
      rotate_left
      · (try go_simp); (try with_reducible rfl)
      try simp only [Act.put, List.setIfInBounds_toArray, List.set_cons_zero, List.set_cons_succ]
      refine g_take (i := 3) (d := (some 81)) (v := ?_) rfl rfl (by kernel_rfl) (fun _ _ _ h => h) (by rfl) (fun w' hb' => ?_) ?_
      rotate_left
      · (try go_simp); (try with_reducible rfl)
      try simp only [Act.put, List.setIfInBounds_toArray, List.set_cons_zero, List.set_cons_succ]
      refine g_take (i := 4) (d := (some 82)) (v := ?_) rfl rfl (by kernel_rfl) (fun _ _ _ h => h) (by rfl) (fun w' hb' => ?_) ?_
      rotate_left
      · (try go_simp); (try with_reducible rfl)
      try simp only [Act.put, List.setIfInBounds_toArray, List.set_cons_zero, List.set_cons_succ]
      refine g_take (i := 5) (d := (some 83)) (v := ?_) rfl rfl (by kernel_rfl) (fun _ _ _ h => h) (by rfl) (fun w' hb' => ?_) ?_
      rotate_left
      · have zz := (block_cell ((hb'.block _ (lt_of_block q5)).trans q5) 33).trans H33.out; (try go_simp); (try with_reducible rfl)
      try simp only [Act.put, List.setIfInBounds_toArray, List.set_cons_zero, List.set_cons_succ]
      refine g_take (i := 6) (d := (some 84)) (v := ?_) rfl rfl (by kernel_rfl) (fun _ _ _ h => h) (by rfl) (fun w' hb' => ?_) ?_
      rotate_left
      · (try go_simp); (try with_reducible rfl)
      try simp only [Act.put, List.setIfInBounds_toArray, List.set_cons_zero, List.set_cons_succ]
      refine g_take (i := 7) (d := (some 85)) (v := ?_) rfl rfl (by kernel_rfl) (fun _ _ _ h => h) (by rfl) (fun w' hb' => ?_) ?_
      rotate_left
      · (refine load_partO_op _ _ (.tmp 84) ?_ ?_ (tC_range ((hb'.block _ (lt_of_block q5)).trans q5)) Tryd.underlying26 ?_ (tC_infoA hszF) <;> rfl); (try go_simp); (try with_reducible rfl)
      try simp only [Act.put, List.setIfInBounds_toArray, List.set_cons_zero, List.set_cons_succ]
      refine g_run (i := 8) rfl (by kernel_rfl) (by rfl) (fun K hK => ?_)
      go_simp; refine (WT.out _ hS).mono ?_; rintro e u8 ⟨rfl, gg⟩; have hS := chain hS gg; have q5 := (gg.block _ (lt_of_block q5)).trans q5; refine hK _ _ ⟨gg, ?_⟩; clear hK K gg
      try simp only [Act.put, List.setIfInBounds_toArray, List.set_cons_zero, List.set_cons_succ]
      refine g_take (i := 9) (d := (some 87)) (v := ?_) rfl rfl (by kernel_rfl) (fun _ _ _ h => h) (by rfl) (fun w' hb' => ?_) ?_
      rotate_left
      · (try go_simp); (try with_reducible rfl)
      try simp only [Act.put, List.setIfInBounds_toArray, List.set_cons_zero, List.set_cons_succ]
      refine g_take (i := 10) (d := (some 88)) (v := ?_) rfl rfl (by kernel_rfl) (fun _ _ _ h => h) (by rfl) (fun w' hb' => ?_) ?_
      rotate_left
      · (try go_simp); (try with_reducible rfl)
      try simp only [Act.put, List.setIfInBounds_toArray, List.set_cons_zero, List.set_cons_succ]
      refine g_take (i := 11) (d := (some 89)) (v := ?_) rfl rfl (by kernel_rfl) (fun _ _ _ h => h) (by rfl) (fun w' hb' => ?_) ?_
      rotate_left
      · (try go_simp); (try with_reducible rfl)
      try simp only [Act.put, List.setIfInBounds_toArray, List.set_cons_zero, List.set_cons_succ]
      refine g_take (i := 12) (d := (some 90)) (v := ?_) rfl rfl (by kernel_rfl) (fun _ _ _ h => h) (by rfl) (fun w' hb' => ?_) ?_
      rotate_left
      · (try go_simp); (try with_reducible rfl)
      try simp only [Act.put, List.setIfInBounds_toArray, List.set_cons_zero, List.set_cons_succ]
      refine g_take (i := 13) (d := (some 91)) (v := ?_) rfl rfl (by kernel_rfl) (fun _ _ _ h => h) (by rfl) (fun w' hb' => ?_) ?_
      rotate_left
      · (try go_simp); (try with_reducible rfl)
      try simp only [Act.put, List.setIfInBounds_toArray, List.set_cons_zero, List.set_cons_succ]
      refine g_take (i := 14) (d := (some 92)) (v := ?_) rfl rfl (by kernel_rfl) (fun _ _ _ h => h) (by rfl) (fun w' hb' => ?_) ?_
      rotate_left
      · (try go_simp); (try with_reducible rfl)
      try simp only [Act.put, List.setIfInBounds_toArray, List.set_cons_zero, List.set_cons_succ]
      refine g_take (i := 15) (d := (some 93)) (v := ?_) rfl rfl (by kernel_rfl) (fun _ _ _ h => h) (by rfl) (fun w' hb' => ?_) ?_
      rotate_left
      · have zz := (block_cell ((hb'.block _ (lt_of_block q5)).trans q5) 34).trans H34.out; (try go_simp); (try with_reducible rfl)
      try simp only [Act.put, List.setIfInBounds_toArray, List.set_cons_zero, List.set_cons_succ]
      refine g_take (i := 16) (d := (some 94)) (v := ?_) rfl rfl (by kernel_rfl) (fun _ _ _ h => h) (by rfl) (fun w' hb' => ?_) ?_
      rotate_left
      · (try go_simp); (try with_reducible rfl)
      try simp only [Act.put, List.setIfInBounds_toArray, List.set_cons_zero, List.set_cons_succ]
      refine g_take (i := 17) (d := (some 95)) (v := ?_) rfl rfl (by kernel_rfl) (fun _ _ _ h => h) (by rfl) (fun w' hb' => ?_) ?_
      rotate_left
      · (refine load_partO_op _ _ (.tmp 94) ?_ ?_ (tC_range ((hb'.block _ (lt_of_block q5)).trans q5)) Tryd.underlying26 ?_ (tC_infoA hszF) <;> rfl); (try go_simp); (try with_reducible rfl)
      try simp only [Act.put, List.setIfInBounds_toArray, List.set_cons_zero, List.set_cons_succ]
      refine g_run (i := 18) rfl (by kernel_rfl) (by rfl) (fun K hK => ?_)
      go_simp; refine (AL.out _ hS).mono ?_; rintro e u18 ⟨vl, rfl, own9, gg⟩; obtain ⟨al, cl, rfl⟩ := own_slice_n own9; clear own9; have hS := chain hS gg; have q5 := (gg.block _ (lt_of_block q5)).trans q5; refine hK _ _ ⟨gg, ?_⟩; clear hK K gg
      try simp only [Act.put, List.setIfInBounds_toArray, List.set_cons_zero, List.set_cons_succ]
      refine g_take (i := 19) (d := (some 97)) (v := ?_) rfl rfl (by kernel_rfl) (fun _ _ _ h => h) (by rfl) (fun w' hb' => ?_) ?_
      rotate_left
      · (try go_simp); (try with_reducible rfl)
      try simp only [Act.put, List.setIfInBounds_toArray, List.set_cons_zero, List.set_cons_succ]
      refine g_take (i := 20) (d := (some 98)) (v := ?_) rfl rfl (by kernel_rfl) (fun _ _ _ h => h) (by rfl) (fun w' hb' => ?_) ?_
      rotate_left
      · (try go_simp); (try with_reducible rfl)
      try simp only [Act.put, List.setIfInBounds_toArray, List.set_cons_zero, List.set_cons_succ]
      refine g_take (i := 21) (d := (some 99)) (v := ?_) rfl rfl (by kernel_rfl) (fun _ _ _ h => h) (by rfl) (fun w' hb' => ?_) ?_
      rotate_left
      · (try go_simp); (try with_reducible rfl)
      try simp only [Act.put, List.setIfInBounds_toArray, List.set_cons_zero, List.set_cons_succ]
      refine g_take (i := 22) (d := (some 100)) (v := ?_) rfl rfl (by kernel_rfl) (fun _ _ _ h => h) (by rfl) (fun w' hb' => ?_) ?_
      rotate_left
      · (try go_simp); (try with_reducible rfl)
      try simp only [Act.put, List.setIfInBounds_toArray, List.set_cons_zero, List.set_cons_succ]
      refine g_take (i := 23) (d := (some 101)) (v := ?_) rfl rfl (by kernel_rfl) (fun _ _ _ h => h) (by rfl) (fun w' hb' => ?_) ?_
      rotate_left
      · (try go_simp); (try with_reducible rfl)
      try simp only [Act.put, List.setIfInBounds_toArray, List.set_cons_zero, List.set_cons_succ]
      refine g_take (i := 24) (d := (some 102)) (v := ?_) rfl rfl (by kernel_rfl) (fun _ _ _ h => h) (by rfl) (fun w' hb' => ?_) ?_
      rotate_left
      · (refine load_row_op _ _ (.tmp 5) ?_ ?_ ((hb'.block _ (lt_of_block q5)).trans q5) Tryd.underlying28 ?_ hsF <;> rfl); (try go_simp); (try with_reducible rfl)
      try simp only [Act.put, List.setIfInBounds_toArray, List.set_cons_zero, List.set_cons_succ]
      refine g_take (i := 25) (d := (some 103)) (v := ?_) rfl rfl (by kernel_rfl) (fun _ _ _ h => h) (by rfl) (fun w' hb' => ?_) ?_
      rotate_left
      · (refine load_row_op _ _ (.tmp 5) ?_ ?_ ((hb'.block _ (lt_of_block q5)).trans q5) Tryd.underlying28 ?_ hsF <;> rfl); (try go_simp); (try with_reducible rfl)
      try simp only [Act.put, List.setIfInBounds_toArray, List.set_cons_zero, List.set_cons_succ]
      refine g_run (i := 26) rfl (by kernel_rfl) (by rfl) (fun K hK => ?_)
      go_simp; refine (SM.out _ hS).mono ?_; rintro e u26 ⟨rfl, gg⟩; have hS := chain hS gg; have q5 := (gg.block _ (lt_of_block q5)).trans q5; refine hK _ _ ⟨gg, ?_⟩; clear hK K gg
      try simp only [Act.put, List.setIfInBounds_toArray, List.set_cons_zero, List.set_cons_succ]
      refine g_take (i := 27) (d := (some 105)) (v := ?_) rfl rfl (by kernel_rfl) (fun _ _ _ h => h) (by rfl) (fun w' hb' => ?_) ?_
      rotate_left
      · (try go_simp); (try with_reducible rfl)
      try simp only [Act.put, List.setIfInBounds_toArray, List.set_cons_zero, List.set_cons_succ]
      refine g_take (i := 28) (d := (some 106)) (v := ?_) rfl rfl (by kernel_rfl) (fun _ _ _ h => h) (by rfl) (fun w' hb' => ?_) ?_
      rotate_left
      · (try go_simp); (try with_reducible rfl)
      try simp only [Act.put, List.setIfInBounds_toArray, List.set_cons_zero, List.set_cons_succ]
      refine g_run (i := 29) rfl (by kernel_rfl) (by rfl) (fun K hK => ?_)
      go_simp; refine (AW.out _ hS).mono ?_; rintro e u29 ⟨rfl, gg⟩; have hS := chain hS gg; have q5 := (gg.block _ (lt_of_block q5)).trans q5; refine hK _ _ ⟨gg, ?_⟩; clear hK K gg
      try simp only [Act.put, List.setIfInBounds_toArray, List.set_cons_zero, List.set_cons_succ]
      refine g_take (i := 30) (d := (some 108)) (v := ?_) rfl rfl (by kernel_rfl) (fun _ _ _ h => h) (by rfl) (fun w' hb' => ?_) ?_
      rotate_left
      · (try go_simp); (try with_reducible rfl)
      try simp only [Act.put, List.setIfInBounds_toArray, List.set_cons_zero, List.set_cons_succ]
      refine g_take (i := 31) (d := (some 6)) (v := ?_) rfl rfl (by kernel_rfl) (fun _ _ _ h => h) (by rfl) (fun w' hb' => ?_) ?_
      rotate_left
      · (try go_simp); (try with_reducible rfl)
      try simp only [Act.put, List.setIfInBounds_toArray, List.set_cons_zero, List.set_cons_succ]
      refine g_done (by kernel_rfl) ?_
    
      go_wp2_with fail
      go_ret
      exact ⟨rfl, chain BW.out hS⟩
  by_cases c3 : 1024 < k
  · skip
    have t0 : decide (b < 0) = false := decide_eq_false c0
    have t1 : decide (65536 < b) = false := decide_eq_false c1
    have t2 : decide (k < 0) = false := decide_eq_false c2
    have t3 : decide (1024 < k) = true := decide_eq_true c3
    have hnb : newB b k = false := by
      unfold newB rngB
      rw [Bool.eq_false_iff]; intro hh; simp only [Bool.and_eq_true, decide_eq_true_eq] at hh; omega
    have NW := Lib.hid (show Calls Tryd.prog 14 #[.int .i64 b, .int .i64 k] WS fun e w' => e = .returned (.tuple #[.agg zS, .int .i64 1]) ∧ Below WS.heap.size WS w' by
      have := NW0
      unfold NewZ at this
      rw [if_neg (by rw [hnb]; decide), if_neg (by rw [hnb]; decide)] at this
      exact this)
    clear NW0 hnb c0 c1 c2 c3
    go_wp2_with fail
    refine (NW.out).mono ?_
    rintro e x0 ⟨rfl, g⟩
    have q5 := (g.block _ (lt_of_block q5)).trans q5
    have hS := chain hS g
    clear g
    have qd7 := heap_alloc_new x0 (.cells zS 28)
    go_wp2_with (first | ((with_reducible refine wpList_store_row (o := ⟨none, _, _, _, _, _⟩) rfl 28 (.tmp 7) (.tmp 17) rfl _ zS rfl rfl _ zS qd7 (infoS zS_size) rfl zS_one ?_); (obtain ⟨y0, hWn⟩ : ∃ W, W = (World.alloc x0 (.cells zS 28)).setRow x0.heap.size zS := ⟨_, rfl⟩); rw [← hWn]; (have q7 : y0.heap[x0.heap.size]? = some (.cells zS 28 (0, 0)) := by rw [hWn]; exact setRow_heap _ _ _ zS _ _ qd7); (have gn : Below x0.heap.size x0 y0 := by rw [hWn]; exact below_row ((Below.refl _ _).alloc (Nat.le_refl _) _) (Nat.le_refl _) zS); clear hWn qd7; (have hS := chain hS gn); (have q5 := (gn.block _ (lt_of_block q5)).trans q5); clear gn) | ((with_reducible refine wpList_load_row (o := ⟨some 33, _, _, _, _, _⟩) rfl 28 (.tmp 7) rfl _ rfl _ zS (0, 0) _ q7 Tryd.underlying28 rfl (infoS zS_size) ?_)))
    refine (NN.out _ hS).mono ?_
    rintro e y1 ⟨rfl, g⟩
    have q5 := (g.block _ (lt_of_block q5)).trans q5
    have hS := chain hS g
    clear g
    clear q7
    cases hm : mayS sF with
    | false =>
      rw [hm] at RY0 MY0
      have RM := Lib.hid (fun W (g : Below WS.heap.size WS W) => show Calls Tryd.prog 17 #[.agg CF] W fun e w' => e = .returned (.tuple #[.int .i64 0, .int .i64 0]) ∧ Below W.heap.size W w' by
        have := RM0 W g
        unfold RoomZ at this
        rw [if_neg (by rw [hm]; decide), if_neg (by rw [hm]; decide)] at this
        exact this)
      have SM := Lib.hid (fun W (g : Below WS.heap.size WS W) => show Calls Tryd.prog 20 #[.agg CF, .agg CF] W fun e w' => e = .returned (.bool false) ∧ Below W.heap.size W w' by
        have := SM0 W g
        rw [pSame_no hm] at this
        exact this)
      have RY := Lib.hid RY0
      have MY := Lib.hid MY0
      clear RM0 SM0 RY0 MY0 WT0 AL0 hm
      go_wp2_with ((with_reducible refine wpList_load_row (o := ⟨some 51, _, _, _, _, _⟩) rfl 28 (.tmp 5) rfl _ rfl _ CF (0, 0) _ q5 Tryd.underlying28 rfl hsF ?_))
      refine (RM.out _ hS).mono ?_
      rintro e x1 ⟨rfl, g⟩
      have q5 := (g.block _ (lt_of_block q5)).trans q5
      have hS := chain hS g
      clear g
      go_wp2_with ((with_reducible refine wpList_load_row (o := ⟨some 55, _, _, _, _, _⟩) rfl 28 (.tmp 5) rfl _ rfl _ CF (0, 0) _ q5 Tryd.underlying28 rfl hsF ?_))
      refine (RY.out _ hS).mono ?_
      rintro e x2 ⟨rfl, g⟩
      have q5 := (g.block _ (lt_of_block q5)).trans q5
      have hS := chain hS g
      clear g
      go_wp2_with ((with_reducible refine wpList_load_row (o := ⟨some 58, _, _, _, _, _⟩) rfl 28 (.tmp 5) rfl _ rfl _ CF (0, 0) _ q5 Tryd.underlying28 rfl hsF ?_))
      refine (MY.out _ hS).mono ?_
      rintro e x3 ⟨rfl, g⟩
      have q5 := (g.block _ (lt_of_block q5)).trans q5
      have hS := chain hS g
      clear g
      go_wp2_with (first | ((with_reducible refine wpList_load_row_g (o := ⟨some 70, _, _, _, _, _⟩) ?_ 28 (.tmp 5) rfl _ rfl _ CF (0, 0) _ q5 Tryd.underlying28 rfl hsF ?_); rfl) | ((with_reducible refine wpList_load_row_g (o := ⟨some 71, _, _, _, _, _⟩) ?_ 28 (.tmp 5) rfl _ rfl _ CF (0, 0) _ q5 Tryd.underlying28 rfl hsF ?_); rfl))
      refine (SM.out _ hS).mono ?_
      rintro e x4 ⟨rfl, g⟩
      have q5 := (g.block _ (lt_of_block q5)).trans q5
      have hS := chain hS g
      clear g
      go_wp2_with fail
      refine (AW.out _ hS).mono ?_
      rintro e x5 ⟨rfl, g⟩
      have hS := chain hS g
      clear g
      go_wp2_with fail
      go_ret
      exact ⟨rfl, chain BW.out hS⟩
    | true =>
      rw [hm] at RY0 MY0
      have RM1 := RM0
      obtain ⟨N1, hN1⟩ : ∃ N, N = wtL (allN sF.lv 16) := ⟨_, rfl⟩
      obtain ⟨LL, hLL⟩ : ∃ N, N = allN sF.lv 16 := ⟨_, rfl⟩
      have hb4 := mayS_by hm
      have hft := mayS_fits hm
      unfold fitsB at hft
      rw [sumT_wt (mayS_t hm), sumT_len (mayS_t hm), ← hN1, ← hLL] at hft
      simp only [Bool.and_eq_true, decide_eq_true_eq] at hft
      have WT1 := fun W (g : Below WS.heap.size WS W) => WT0 W g (mayS_t hm)
      rw [← hN1] at WT1
      rw [← hLL] at AL0
      obtain ⟨B, hB⟩ : ∃ B, B = sF.by_ := ⟨_, rfl⟩
      obtain ⟨K9, hK9⟩ : ∃ B, B = sF.ke := ⟨_, rfl⟩
      obtain ⟨D1, hD1⟩ : ∃ D, D = B - (N1 : Int) := ⟨_, rfl⟩
      obtain ⟨N2, hN2⟩ : ∃ D, D = LL.length := ⟨_, rfl⟩
      obtain ⟨D2, hD2⟩ : ∃ D, D = K9 - (N2 : Int) := ⟨_, rfl⟩
      rw [← hN2, ← hB, ← hK9] at hft
      rw [← hB, ← hK9] at hb4
      have H33 := Lib.hid (show CF[33]? = some (.int .i64 B) by rw [hB]; exact RS.out.by_)
      have H34 := Lib.hid (show CF[34]? = some (.int .i64 K9) by rw [hK9]; exact RS.out.ke)
      have hw1 : IntKind.i64.wrap (B - (N1 : Int)) = D1 := by rw [IntKind.wrap_i64]; omega
      have hw2 : IntKind.i64.wrap (K9 - (N2 : Int)) = D2 := by rw [IntKind.wrap_i64]; omega
      have RM := Lib.hid (fun W (g : Below WS.heap.size WS W) => show Calls Tryd.prog 17 #[.agg CF] W fun e w' => e = .returned (.tuple #[.int .i64 D1, .int .i64 D2]) ∧ Below W.heap.size W w' by
        have := RM0 W g
        unfold RoomZ at this
        rw [if_pos hm, if_pos hm, sumT_wt (mayS_t hm), sumT_len (mayS_t hm), ← hN1, ← hLL, ← hN2, ← hB, ← hK9, ← hD1, ← hD2] at this
        exact this)
      have SM := Lib.hid (fun W (g : Below WS.heap.size WS W) => show Calls Tryd.prog 20 #[.agg CF, .agg CF] W fun e w' => e = .returned (.bool true) ∧ Below W.heap.size W w' by
        have := SM0 W g
        rw [pSame_self hm] at this
        exact this)
      have AL := Lib.hid (fun W (g : Below WS.heap.size WS W) => show Calls Tryd.prog 23 #[.agg (tC CF)] W fun e w' => ∃ v', e = .returned v' ∧ w'.ownsRow W.heap.size 53 5 v' N2 (LL.flatMap itC) ∧ Below W.heap.size W w' by
        have := AL0 W g
        unfold OwnI at this
        rw [← hN2] at this
        exact this)
      have WT := Lib.hid WT1
      have RY := Lib.hid RY0
      have MY := Lib.hid MY0
      clear RM0 RM1 SM0 RY0 MY0 WT0 WT1 AL0 hm hN1 hN2 hLL hB hK9 hD1 hD2 hft hb4
      go_wp2_with ((with_reducible refine wpList_load_row (o := ⟨some 51, _, _, _, _, _⟩) rfl 28 (.tmp 5) rfl _ rfl _ CF (0, 0) _ q5 Tryd.underlying28 rfl hsF ?_))
      refine (RM.out _ hS).mono ?_
      rintro e x1 ⟨rfl, g⟩
      have q5 := (g.block _ (lt_of_block q5)).trans q5
      have hS := chain hS g
      clear g
      go_wp2_with ((with_reducible refine wpList_load_row (o := ⟨some 55, _, _, _, _, _⟩) rfl 28 (.tmp 5) rfl _ rfl _ CF (0, 0) _ q5 Tryd.underlying28 rfl hsF ?_))
      refine (RY.out _ hS).mono ?_
      rintro e x2 ⟨rfl, g⟩
      have q5 := (g.block _ (lt_of_block q5)).trans q5
      have hS := chain hS g
      clear g
      go_wp2_with fail
      refine g_start (by kernel_rfl) ?_
      refine g_take (i := 0) (d := (some 78)) (v := ?_) rfl rfl (by kernel_rfl) (fun _ _ _ h => h) (by rfl) (fun w' hb' => ?_) ?_
      rotate_left
      · (refine load_row_op _ _ (.tmp 5) ?_ ?_ ((hb'.block _ (lt_of_block q5)).trans q5) Tryd.underlying28 ?_ hsF <;> rfl); (try go_simp); (try with_reducible rfl)
      try simp only [Act.put, List.setIfInBounds_toArray, List.set_cons_zero, List.set_cons_succ]
      refine g_run (i := 1) rfl (by kernel_rfl) (by rfl) (fun K hK => ?_)
      go_simp; refine (MY.out _ (Below.drew hS)).mono ?_; rintro e u1 ⟨rfl, gg⟩; have hS := chain (Below.drew hS) gg; have q5 := (gg.block _ (lt_of_block q5)).trans q5; refine hK _ _ ⟨gg, ?_⟩; clear hK K gg
      try simp only [Act.put, List.setIfInBounds_toArray, List.set_cons_zero, List.set_cons_succ]
      refine g_take (i := 2) (d := (some 80)) (v := ?_) rfl rfl (by kernel_rfl) (fun _ _ _ h => h) (by rfl) (fun w' hb' => ?_) ?_
      rotate_left
      · (try go_simp); (try with_reducible rfl)
      try simp only [Act.put, List.setIfInBounds_toArray, List.set_cons_zero, List.set_cons_succ]
      refine g_take (i := 3) (d := (some 81)) (v := ?_) rfl rfl (by kernel_rfl) (fun _ _ _ h => h) (by rfl) (fun w' hb' => ?_) ?_
      rotate_left
      · (try go_simp); (try with_reducible rfl)
      try simp only [Act.put, List.setIfInBounds_toArray, List.set_cons_zero, List.set_cons_succ]
      refine g_take (i := 4) (d := (some 82)) (v := ?_) rfl rfl (by kernel_rfl) (fun _ _ _ h => h) (by rfl) (fun w' hb' => ?_) ?_
      rotate_left
      · (try go_simp); (try with_reducible rfl)
      try simp only [Act.put, List.setIfInBounds_toArray, List.set_cons_zero, List.set_cons_succ]
      refine g_take (i := 5) (d := (some 83)) (v := ?_) rfl rfl (by kernel_rfl) (fun _ _ _ h => h) (by rfl) (fun w' hb' => ?_) ?_
      rotate_left
      · have zz := (block_cell ((hb'.block _ (lt_of_block q5)).trans q5) 33).trans H33.out; (try go_simp); (try with_reducible rfl)
      try simp only [Act.put, List.setIfInBounds_toArray, List.set_cons_zero, List.set_cons_succ]
      refine g_take (i := 6) (d := (some 84)) (v := ?_) rfl rfl (by kernel_rfl) (fun _ _ _ h => h) (by rfl) (fun w' hb' => ?_) ?_
      rotate_left
      · (try go_simp); (try with_reducible rfl)
      try simp only [Act.put, List.setIfInBounds_toArray, List.set_cons_zero, List.set_cons_succ]
      refine g_take (i := 7) (d := (some 85)) (v := ?_) rfl rfl (by kernel_rfl) (fun _ _ _ h => h) (by rfl) (fun w' hb' => ?_) ?_
      rotate_left
      · (refine load_partO_op _ _ (.tmp 84) ?_ ?_ (tC_range ((hb'.block _ (lt_of_block q5)).trans q5)) Tryd.underlying26 ?_ (tC_infoA hszF) <;> rfl); (try go_simp); (try with_reducible rfl)
      try simp only [Act.put, List.setIfInBounds_toArray, List.set_cons_zero, List.set_cons_succ]
      refine g_run (i := 8) rfl (by kernel_rfl) (by rfl) (fun K hK => ?_)
      go_simp; refine (WT.out _ hS).mono ?_; rintro e u8 ⟨rfl, gg⟩; have hS := chain hS gg; have q5 := (gg.block _ (lt_of_block q5)).trans q5; refine hK _ _ ⟨gg, ?_⟩; clear hK K gg
      try simp only [Act.put, List.setIfInBounds_toArray, List.set_cons_zero, List.set_cons_succ]
      refine g_take (i := 9) (d := (some 87)) (v := ?_) rfl rfl (by kernel_rfl) (fun _ _ _ h => h) (by rfl) (fun w' hb' => ?_) ?_
      rotate_left
      · (try go_simp); (try with_reducible rfl)
      try simp only [Act.put, List.setIfInBounds_toArray, List.set_cons_zero, List.set_cons_succ]
      refine g_take (i := 10) (d := (some 88)) (v := ?_) rfl rfl (by kernel_rfl) (fun _ _ _ h => h) (by rfl) (fun w' hb' => ?_) ?_
      rotate_left
      · (try go_simp); (try with_reducible rfl)
      try simp only [Act.put, List.setIfInBounds_toArray, List.set_cons_zero, List.set_cons_succ]
      refine g_take (i := 11) (d := (some 89)) (v := ?_) rfl rfl (by kernel_rfl) (fun _ _ _ h => h) (by rfl) (fun w' hb' => ?_) ?_
      rotate_left
      · (try go_simp); (try with_reducible rfl)
      try simp only [Act.put, List.setIfInBounds_toArray, List.set_cons_zero, List.set_cons_succ]
      refine g_take (i := 12) (d := (some 90)) (v := ?_) rfl rfl (by kernel_rfl) (fun _ _ _ h => h) (by rfl) (fun w' hb' => ?_) ?_
      rotate_left
      · (try go_simp); (try with_reducible rfl)
      try simp only [Act.put, List.setIfInBounds_toArray, List.set_cons_zero, List.set_cons_succ]
      refine g_take (i := 13) (d := (some 91)) (v := ?_) rfl rfl (by kernel_rfl) (fun _ _ _ h => h) (by rfl) (fun w' hb' => ?_) ?_
      rotate_left
      · (try go_simp); (try with_reducible rfl)
      try simp only [Act.put, List.setIfInBounds_toArray, List.set_cons_zero, List.set_cons_succ]
      refine g_take (i := 14) (d := (some 92)) (v := ?_) rfl rfl (by kernel_rfl) (fun _ _ _ h => h) (by rfl) (fun w' hb' => ?_) ?_
      rotate_left
      · (try go_simp); (try with_reducible rfl)
      try simp only [Act.put, List.setIfInBounds_toArray, List.set_cons_zero, List.set_cons_succ]
      refine g_take (i := 15) (d := (some 93)) (v := ?_) rfl rfl (by kernel_rfl) (fun _ _ _ h => h) (by rfl) (fun w' hb' => ?_) ?_
      rotate_left
      · have zz := (block_cell ((hb'.block _ (lt_of_block q5)).trans q5) 34).trans H34.out; (try go_simp); (try with_reducible rfl)
      try simp only [Act.put, List.setIfInBounds_toArray, List.set_cons_zero, List.set_cons_succ]
      refine g_take (i := 16) (d := (some 94)) (v := ?_) rfl rfl (by kernel_rfl) (fun _ _ _ h => h) (by rfl) (fun w' hb' => ?_) ?_
      rotate_left
      · (try go_simp); (try with_reducible rfl)
      try simp only [Act.put, List.setIfInBounds_toArray, List.set_cons_zero, List.set_cons_succ]
      refine g_take (i := 17) (d := (some 95)) (v := ?_) rfl rfl (by kernel_rfl) (fun _ _ _ h => h) (by rfl) (fun w' hb' => ?_) ?_
      rotate_left
      · (refine load_partO_op _ _ (.tmp 94) ?_ ?_ (tC_range ((hb'.block _ (lt_of_block q5)).trans q5)) Tryd.underlying26 ?_ (tC_infoA hszF) <;> rfl); (try go_simp); (try with_reducible rfl)
      try simp only [Act.put, List.setIfInBounds_toArray, List.set_cons_zero, List.set_cons_succ]
      refine g_run (i := 18) rfl (by kernel_rfl) (by rfl) (fun K hK => ?_)
      go_simp; refine (AL.out _ hS).mono ?_; rintro e u18 ⟨vl, rfl, own9, gg⟩; obtain ⟨al, cl, rfl⟩ := own_slice_n own9; clear own9; have hS := chain hS gg; have q5 := (gg.block _ (lt_of_block q5)).trans q5; refine hK _ _ ⟨gg, ?_⟩; clear hK K gg
      try simp only [Act.put, List.setIfInBounds_toArray, List.set_cons_zero, List.set_cons_succ]
      refine g_take (i := 19) (d := (some 97)) (v := ?_) rfl rfl (by kernel_rfl) (fun _ _ _ h => h) (by rfl) (fun w' hb' => ?_) ?_
      rotate_left
      · (try go_simp); (try with_reducible rfl)
      try simp only [Act.put, List.setIfInBounds_toArray, List.set_cons_zero, List.set_cons_succ]
      refine g_take (i := 20) (d := (some 98)) (v := ?_) rfl rfl (by kernel_rfl) (fun _ _ _ h => h) (by rfl) (fun w' hb' => ?_) ?_
      rotate_left
      · (try go_simp); (try with_reducible rfl)
      try simp only [Act.put, List.setIfInBounds_toArray, List.set_cons_zero, List.set_cons_succ]
      refine g_take (i := 21) (d := (some 99)) (v := ?_) rfl rfl (by kernel_rfl) (fun _ _ _ h => h) (by rfl) (fun w' hb' => ?_) ?_
      rotate_left
      · (try go_simp); (try with_reducible rfl)
      try simp only [Act.put, List.setIfInBounds_toArray, List.set_cons_zero, List.set_cons_succ]
      refine g_take (i := 22) (d := (some 100)) (v := ?_) rfl rfl (by kernel_rfl) (fun _ _ _ h => h) (by rfl) (fun w' hb' => ?_) ?_
      rotate_left
      · (try go_simp); (try with_reducible rfl)
      try simp only [Act.put, List.setIfInBounds_toArray, List.set_cons_zero, List.set_cons_succ]
      refine g_take (i := 23) (d := (some 101)) (v := ?_) rfl rfl (by kernel_rfl) (fun _ _ _ h => h) (by rfl) (fun w' hb' => ?_) ?_
      rotate_left
      · (try go_simp); (try with_reducible rfl)
      try simp only [Act.put, List.setIfInBounds_toArray, List.set_cons_zero, List.set_cons_succ]
      refine g_take (i := 24) (d := (some 102)) (v := ?_) rfl rfl (by kernel_rfl) (fun _ _ _ h => h) (by rfl) (fun w' hb' => ?_) ?_
      rotate_left
      · (refine load_row_op _ _ (.tmp 5) ?_ ?_ ((hb'.block _ (lt_of_block q5)).trans q5) Tryd.underlying28 ?_ hsF <;> rfl); (try go_simp); (try with_reducible rfl)
      try simp only [Act.put, List.setIfInBounds_toArray, List.set_cons_zero, List.set_cons_succ]
      refine g_take (i := 25) (d := (some 103)) (v := ?_) rfl rfl (by kernel_rfl) (fun _ _ _ h => h) (by rfl) (fun w' hb' => ?_) ?_
      rotate_left
      · (refine load_row_op _ _ (.tmp 5) ?_ ?_ ((hb'.block _ (lt_of_block q5)).trans q5) Tryd.underlying28 ?_ hsF <;> rfl); (try go_simp); (try with_reducible rfl)
      try simp only [Act.put, List.setIfInBounds_toArray, List.set_cons_zero, List.set_cons_succ]
      refine g_run (i := 26) rfl (by kernel_rfl) (by rfl) (fun K hK => ?_)
      go_simp; refine (SM.out _ hS).mono ?_; rintro e u26 ⟨rfl, gg⟩; have hS := chain hS gg; have q5 := (gg.block _ (lt_of_block q5)).trans q5; refine hK _ _ ⟨gg, ?_⟩; clear hK K gg
      try simp only [Act.put, List.setIfInBounds_toArray, List.set_cons_zero, List.set_cons_succ]
      refine g_take (i := 27) (d := (some 105)) (v := ?_) rfl rfl (by kernel_rfl) (fun _ _ _ h => h) (by rfl) (fun w' hb' => ?_) ?_
      rotate_left
      · (try go_simp); (try with_reducible rfl)
      try simp only [Act.put, List.setIfInBounds_toArray, List.set_cons_zero, List.set_cons_succ]
      refine g_take (i := 28) (d := (some 106)) (v := ?_) rfl rfl (by kernel_rfl) (fun _ _ _ h => h) (by rfl) (fun w' hb' => ?_) ?_
      rotate_left
      · (try go_simp); (try with_reducible rfl)
      try simp only [Act.put, List.setIfInBounds_toArray, List.set_cons_zero, List.set_cons_succ]
      refine g_run (i := 29) rfl (by kernel_rfl) (by rfl) (fun K hK => ?_)
      go_simp; refine (AW.out _ hS).mono ?_; rintro e u29 ⟨rfl, gg⟩; have hS := chain hS gg; have q5 := (gg.block _ (lt_of_block q5)).trans q5; refine hK _ _ ⟨gg, ?_⟩; clear hK K gg
      try simp only [Act.put, List.setIfInBounds_toArray, List.set_cons_zero, List.set_cons_succ]
      refine g_take (i := 30) (d := (some 108)) (v := ?_) rfl rfl (by kernel_rfl) (fun _ _ _ h => h) (by rfl) (fun w' hb' => ?_) ?_
      rotate_left
      · (try go_simp); (try with_reducible rfl)
      try simp only [Act.put, List.setIfInBounds_toArray, List.set_cons_zero, List.set_cons_succ]
      refine g_take (i := 31) (d := (some 6)) (v := ?_) rfl rfl (by kernel_rfl) (fun _ _ _ h => h) (by rfl) (fun w' hb' => ?_) ?_
      rotate_left
      · (try go_simp); (try with_reducible rfl)
      try simp only [Act.put, List.setIfInBounds_toArray, List.set_cons_zero, List.set_cons_succ]
      refine g_done (by kernel_rfl) ?_
    
      go_wp2_with fail
      go_ret
      exact ⟨rfl, chain BW.out hS⟩
  · skip
    have t0 : decide (b < 0) = false := decide_eq_false c0
    have t1 : decide (65536 < b) = false := decide_eq_false c1
    have t2 : decide (k < 0) = false := decide_eq_false c2
    have t3 : decide (1024 < k) = false := decide_eq_false c3
    have hnb : newB b k = true := by
      unfold newB rngB
      rw [Bool.and_eq_true, Bool.and_eq_true, Bool.and_eq_true, decide_eq_true_eq, decide_eq_true_eq, decide_eq_true_eq, decide_eq_true_eq]; omega
    have NW := Lib.hid (show Calls Tryd.prog 14 #[.int .i64 b, .int .i64 k] WS fun e w' => e = .returned (.tuple #[.agg (zSN b k), .int .i64 0]) ∧ Below WS.heap.size WS w' by
      have := NW0
      unfold NewZ at this
      rw [if_pos hnb, if_pos hnb] at this
      exact this)
    clear NW0 hnb c0 c1 c2 c3
    go_wp2_with fail
    refine (NW.out).mono ?_
    rintro e x0 ⟨rfl, g⟩
    have q5 := (g.block _ (lt_of_block q5)).trans q5
    have hS := chain hS g
    clear g
    have qd7 := heap_alloc_new x0 (.cells zS 28)
    have szN := zSN_size b k
    have onN := zSN_one w b k
    go_wp2_with (first | ((with_reducible refine wpList_store_row (o := ⟨none, _, _, _, _, _⟩) rfl 28 (.tmp 7) (.tmp 17) rfl _ (zSN b k) rfl rfl _ zS qd7 (infoS szN) (zS_size.trans szN.symm) onN ?_); (obtain ⟨y0, hWn⟩ : ∃ W, W = (World.alloc x0 (.cells zS 28)).setRow x0.heap.size (zSN b k) := ⟨_, rfl⟩); rw [← hWn]; (have q7 : y0.heap[x0.heap.size]? = some (.cells (zSN b k) 28 (0, 0)) := by rw [hWn]; exact setRow_heap _ _ _ (zSN b k) _ _ qd7); (have gn : Below x0.heap.size x0 y0 := by rw [hWn]; exact below_row ((Below.refl _ _).alloc (Nat.le_refl _) _) (Nat.le_refl _) (zSN b k)); clear hWn qd7; (have hS := chain hS gn); (have q5 := (gn.block _ (lt_of_block q5)).trans q5); clear gn) | ((with_reducible refine wpList_load_row (o := ⟨some 40, _, _, _, _, _⟩) rfl 28 (.tmp 7) rfl _ rfl _ (zSN b k) (0, 0) _ q7 Tryd.underlying28 rfl (infoS szN) ?_)) | ((with_reducible refine wpList_buildV (o := ⟨some 43, _, _, _, _, _⟩) rfl 28 #[(2, .tmp 41), (3, .tmp 42)] rfl #[(2, .int .i64 b), (3, .int .i64 k)] rfl (.agg (zSN b k)) (HBN.out _) ?_)))
    refine (NS.out _ hS).mono ?_
    rintro e y1 ⟨rfl, g⟩
    have q5 := (g.block _ (lt_of_block q5)).trans q5
    have hS := chain hS g
    clear g
    clear q7
    cases hm : mayS sF with
    | false =>
      rw [hm] at RY0 MY0
      have RM := Lib.hid (fun W (g : Below WS.heap.size WS W) => show Calls Tryd.prog 17 #[.agg CF] W fun e w' => e = .returned (.tuple #[.int .i64 0, .int .i64 0]) ∧ Below W.heap.size W w' by
        have := RM0 W g
        unfold RoomZ at this
        rw [if_neg (by rw [hm]; decide), if_neg (by rw [hm]; decide)] at this
        exact this)
      have SM := Lib.hid (fun W (g : Below WS.heap.size WS W) => show Calls Tryd.prog 20 #[.agg CF, .agg CF] W fun e w' => e = .returned (.bool false) ∧ Below W.heap.size W w' by
        have := SM0 W g
        rw [pSame_no hm] at this
        exact this)
      have RY := Lib.hid RY0
      have MY := Lib.hid MY0
      clear RM0 SM0 RY0 MY0 WT0 AL0 hm
      go_wp2_with ((with_reducible refine wpList_load_row (o := ⟨some 51, _, _, _, _, _⟩) rfl 28 (.tmp 5) rfl _ rfl _ CF (0, 0) _ q5 Tryd.underlying28 rfl hsF ?_))
      refine (RM.out _ hS).mono ?_
      rintro e x1 ⟨rfl, g⟩
      have q5 := (g.block _ (lt_of_block q5)).trans q5
      have hS := chain hS g
      clear g
      go_wp2_with ((with_reducible refine wpList_load_row (o := ⟨some 55, _, _, _, _, _⟩) rfl 28 (.tmp 5) rfl _ rfl _ CF (0, 0) _ q5 Tryd.underlying28 rfl hsF ?_))
      refine (RY.out _ hS).mono ?_
      rintro e x2 ⟨rfl, g⟩
      have q5 := (g.block _ (lt_of_block q5)).trans q5
      have hS := chain hS g
      clear g
      go_wp2_with ((with_reducible refine wpList_load_row (o := ⟨some 58, _, _, _, _, _⟩) rfl 28 (.tmp 5) rfl _ rfl _ CF (0, 0) _ q5 Tryd.underlying28 rfl hsF ?_))
      refine (MY.out _ hS).mono ?_
      rintro e x3 ⟨rfl, g⟩
      have q5 := (g.block _ (lt_of_block q5)).trans q5
      have hS := chain hS g
      clear g
      go_wp2_with (first | ((with_reducible refine wpList_load_row_g (o := ⟨some 70, _, _, _, _, _⟩) ?_ 28 (.tmp 5) rfl _ rfl _ CF (0, 0) _ q5 Tryd.underlying28 rfl hsF ?_); rfl) | ((with_reducible refine wpList_load_row_g (o := ⟨some 71, _, _, _, _, _⟩) ?_ 28 (.tmp 5) rfl _ rfl _ CF (0, 0) _ q5 Tryd.underlying28 rfl hsF ?_); rfl))
      refine (SM.out _ hS).mono ?_
      rintro e x4 ⟨rfl, g⟩
      have q5 := (g.block _ (lt_of_block q5)).trans q5
      have hS := chain hS g
      clear g
      go_wp2_with fail
      refine (AW.out _ hS).mono ?_
      rintro e x5 ⟨rfl, g⟩
      have hS := chain hS g
      clear g
      go_wp2_with fail
      go_ret
      exact ⟨rfl, chain BW.out hS⟩
    | true =>
      rw [hm] at RY0 MY0
      have RM1 := RM0
      obtain ⟨N1, hN1⟩ : ∃ N, N = wtL (allN sF.lv 16) := ⟨_, rfl⟩
      obtain ⟨LL, hLL⟩ : ∃ N, N = allN sF.lv 16 := ⟨_, rfl⟩
      have hb4 := mayS_by hm
      have hft := mayS_fits hm
      unfold fitsB at hft
      rw [sumT_wt (mayS_t hm), sumT_len (mayS_t hm), ← hN1, ← hLL] at hft
      simp only [Bool.and_eq_true, decide_eq_true_eq] at hft
      have WT1 := fun W (g : Below WS.heap.size WS W) => WT0 W g (mayS_t hm)
      rw [← hN1] at WT1
      rw [← hLL] at AL0
      obtain ⟨B, hB⟩ : ∃ B, B = sF.by_ := ⟨_, rfl⟩
      obtain ⟨K9, hK9⟩ : ∃ B, B = sF.ke := ⟨_, rfl⟩
      obtain ⟨D1, hD1⟩ : ∃ D, D = B - (N1 : Int) := ⟨_, rfl⟩
      obtain ⟨N2, hN2⟩ : ∃ D, D = LL.length := ⟨_, rfl⟩
      obtain ⟨D2, hD2⟩ : ∃ D, D = K9 - (N2 : Int) := ⟨_, rfl⟩
      rw [← hN2, ← hB, ← hK9] at hft
      rw [← hB, ← hK9] at hb4
      have H33 := Lib.hid (show CF[33]? = some (.int .i64 B) by rw [hB]; exact RS.out.by_)
      have H34 := Lib.hid (show CF[34]? = some (.int .i64 K9) by rw [hK9]; exact RS.out.ke)
      have hw1 : IntKind.i64.wrap (B - (N1 : Int)) = D1 := by rw [IntKind.wrap_i64]; omega
      have hw2 : IntKind.i64.wrap (K9 - (N2 : Int)) = D2 := by rw [IntKind.wrap_i64]; omega
      have RM := Lib.hid (fun W (g : Below WS.heap.size WS W) => show Calls Tryd.prog 17 #[.agg CF] W fun e w' => e = .returned (.tuple #[.int .i64 D1, .int .i64 D2]) ∧ Below W.heap.size W w' by
        have := RM0 W g
        unfold RoomZ at this
        rw [if_pos hm, if_pos hm, sumT_wt (mayS_t hm), sumT_len (mayS_t hm), ← hN1, ← hLL, ← hN2, ← hB, ← hK9, ← hD1, ← hD2] at this
        exact this)
      have SM := Lib.hid (fun W (g : Below WS.heap.size WS W) => show Calls Tryd.prog 20 #[.agg CF, .agg CF] W fun e w' => e = .returned (.bool true) ∧ Below W.heap.size W w' by
        have := SM0 W g
        rw [pSame_self hm] at this
        exact this)
      have AL := Lib.hid (fun W (g : Below WS.heap.size WS W) => show Calls Tryd.prog 23 #[.agg (tC CF)] W fun e w' => ∃ v', e = .returned v' ∧ w'.ownsRow W.heap.size 53 5 v' N2 (LL.flatMap itC) ∧ Below W.heap.size W w' by
        have := AL0 W g
        unfold OwnI at this
        rw [← hN2] at this
        exact this)
      have WT := Lib.hid WT1
      have RY := Lib.hid RY0
      have MY := Lib.hid MY0
      clear RM0 RM1 SM0 RY0 MY0 WT0 WT1 AL0 hm hN1 hN2 hLL hB hK9 hD1 hD2 hft hb4
      go_wp2_with ((with_reducible refine wpList_load_row (o := ⟨some 51, _, _, _, _, _⟩) rfl 28 (.tmp 5) rfl _ rfl _ CF (0, 0) _ q5 Tryd.underlying28 rfl hsF ?_))
      refine (RM.out _ hS).mono ?_
      rintro e x1 ⟨rfl, g⟩
      have q5 := (g.block _ (lt_of_block q5)).trans q5
      have hS := chain hS g
      clear g
      go_wp2_with ((with_reducible refine wpList_load_row (o := ⟨some 55, _, _, _, _, _⟩) rfl 28 (.tmp 5) rfl _ rfl _ CF (0, 0) _ q5 Tryd.underlying28 rfl hsF ?_))
      refine (RY.out _ hS).mono ?_
      rintro e x2 ⟨rfl, g⟩
      have q5 := (g.block _ (lt_of_block q5)).trans q5
      have hS := chain hS g
      clear g
      go_wp2_with fail
      refine g_start (by kernel_rfl) ?_
      refine g_take (i := 0) (d := (some 78)) (v := ?_) rfl rfl (by kernel_rfl) (fun _ _ _ h => h) (by rfl) (fun w' hb' => ?_) ?_
      rotate_left
      · (refine load_row_op _ _ (.tmp 5) ?_ ?_ ((hb'.block _ (lt_of_block q5)).trans q5) Tryd.underlying28 ?_ hsF <;> rfl); (try go_simp); (try with_reducible rfl)
      try simp only [Act.put, List.setIfInBounds_toArray, List.set_cons_zero, List.set_cons_succ]
      refine g_run (i := 1) rfl (by kernel_rfl) (by rfl) (fun K hK => ?_)
      go_simp; refine (MY.out _ (Below.drew hS)).mono ?_; rintro e u1 ⟨rfl, gg⟩; have hS := chain (Below.drew hS) gg; have q5 := (gg.block _ (lt_of_block q5)).trans q5; refine hK _ _ ⟨gg, ?_⟩; clear hK K gg
      try simp only [Act.put, List.setIfInBounds_toArray, List.set_cons_zero, List.set_cons_succ]
      refine g_take (i := 2) (d := (some 80)) (v := ?_) rfl rfl (by kernel_rfl) (fun _ _ _ h => h) (by rfl) (fun w' hb' => ?_) ?_
      rotate_left
      · (try go_simp); (try with_reducible rfl)
      try simp only [Act.put, List.setIfInBounds_toArray, List.set_cons_zero, List.set_cons_succ]
      refine g_take (i := 3) (d := (some 81)) (v := ?_) rfl rfl (by kernel_rfl) (fun _ _ _ h => h) (by rfl) (fun w' hb' => ?_) ?_
      rotate_left
      · (try go_simp); (try with_reducible rfl)
      try simp only [Act.put, List.setIfInBounds_toArray, List.set_cons_zero, List.set_cons_succ]
      refine g_take (i := 4) (d := (some 82)) (v := ?_) rfl rfl (by kernel_rfl) (fun _ _ _ h => h) (by rfl) (fun w' hb' => ?_) ?_
      rotate_left
      · (try go_simp); (try with_reducible rfl)
      try simp only [Act.put, List.setIfInBounds_toArray, List.set_cons_zero, List.set_cons_succ]
      refine g_take (i := 5) (d := (some 83)) (v := ?_) rfl rfl (by kernel_rfl) (fun _ _ _ h => h) (by rfl) (fun w' hb' => ?_) ?_
      rotate_left
      · have zz := (block_cell ((hb'.block _ (lt_of_block q5)).trans q5) 33).trans H33.out; (try go_simp); (try with_reducible rfl)
      try simp only [Act.put, List.setIfInBounds_toArray, List.set_cons_zero, List.set_cons_succ]
      refine g_take (i := 6) (d := (some 84)) (v := ?_) rfl rfl (by kernel_rfl) (fun _ _ _ h => h) (by rfl) (fun w' hb' => ?_) ?_
      rotate_left
      · (try go_simp); (try with_reducible rfl)
      try simp only [Act.put, List.setIfInBounds_toArray, List.set_cons_zero, List.set_cons_succ]
      refine g_take (i := 7) (d := (some 85)) (v := ?_) rfl rfl (by kernel_rfl) (fun _ _ _ h => h) (by rfl) (fun w' hb' => ?_) ?_
      rotate_left
      · (refine load_partO_op _ _ (.tmp 84) ?_ ?_ (tC_range ((hb'.block _ (lt_of_block q5)).trans q5)) Tryd.underlying26 ?_ (tC_infoA hszF) <;> rfl); (try go_simp); (try with_reducible rfl)
      try simp only [Act.put, List.setIfInBounds_toArray, List.set_cons_zero, List.set_cons_succ]
      refine g_run (i := 8) rfl (by kernel_rfl) (by rfl) (fun K hK => ?_)
      go_simp; refine (WT.out _ hS).mono ?_; rintro e u8 ⟨rfl, gg⟩; have hS := chain hS gg; have q5 := (gg.block _ (lt_of_block q5)).trans q5; refine hK _ _ ⟨gg, ?_⟩; clear hK K gg
      try simp only [Act.put, List.setIfInBounds_toArray, List.set_cons_zero, List.set_cons_succ]
      refine g_take (i := 9) (d := (some 87)) (v := ?_) rfl rfl (by kernel_rfl) (fun _ _ _ h => h) (by rfl) (fun w' hb' => ?_) ?_
      rotate_left
      · (try go_simp); (try with_reducible rfl)
      try simp only [Act.put, List.setIfInBounds_toArray, List.set_cons_zero, List.set_cons_succ]
      refine g_take (i := 10) (d := (some 88)) (v := ?_) rfl rfl (by kernel_rfl) (fun _ _ _ h => h) (by rfl) (fun w' hb' => ?_) ?_
      rotate_left
      · (try go_simp); (try with_reducible rfl)
      try simp only [Act.put, List.setIfInBounds_toArray, List.set_cons_zero, List.set_cons_succ]
      refine g_take (i := 11) (d := (some 89)) (v := ?_) rfl rfl (by kernel_rfl) (fun _ _ _ h => h) (by rfl) (fun w' hb' => ?_) ?_
      rotate_left
      · (try go_simp); (try with_reducible rfl)
      try simp only [Act.put, List.setIfInBounds_toArray, List.set_cons_zero, List.set_cons_succ]
      refine g_take (i := 12) (d := (some 90)) (v := ?_) rfl rfl (by kernel_rfl) (fun _ _ _ h => h) (by rfl) (fun w' hb' => ?_) ?_
      rotate_left
      · (try go_simp); (try with_reducible rfl)
      try simp only [Act.put, List.setIfInBounds_toArray, List.set_cons_zero, List.set_cons_succ]
      refine g_take (i := 13) (d := (some 91)) (v := ?_) rfl rfl (by kernel_rfl) (fun _ _ _ h => h) (by rfl) (fun w' hb' => ?_) ?_
      rotate_left
      · (try go_simp); (try with_reducible rfl)
      try simp only [Act.put, List.setIfInBounds_toArray, List.set_cons_zero, List.set_cons_succ]
      refine g_take (i := 14) (d := (some 92)) (v := ?_) rfl rfl (by kernel_rfl) (fun _ _ _ h => h) (by rfl) (fun w' hb' => ?_) ?_
      rotate_left
      · (try go_simp); (try with_reducible rfl)
      try simp only [Act.put, List.setIfInBounds_toArray, List.set_cons_zero, List.set_cons_succ]
      refine g_take (i := 15) (d := (some 93)) (v := ?_) rfl rfl (by kernel_rfl) (fun _ _ _ h => h) (by rfl) (fun w' hb' => ?_) ?_
      rotate_left
      · have zz := (block_cell ((hb'.block _ (lt_of_block q5)).trans q5) 34).trans H34.out; (try go_simp); (try with_reducible rfl)
      try simp only [Act.put, List.setIfInBounds_toArray, List.set_cons_zero, List.set_cons_succ]
      refine g_take (i := 16) (d := (some 94)) (v := ?_) rfl rfl (by kernel_rfl) (fun _ _ _ h => h) (by rfl) (fun w' hb' => ?_) ?_
      rotate_left
      · (try go_simp); (try with_reducible rfl)
      try simp only [Act.put, List.setIfInBounds_toArray, List.set_cons_zero, List.set_cons_succ]
      refine g_take (i := 17) (d := (some 95)) (v := ?_) rfl rfl (by kernel_rfl) (fun _ _ _ h => h) (by rfl) (fun w' hb' => ?_) ?_
      rotate_left
      · (refine load_partO_op _ _ (.tmp 94) ?_ ?_ (tC_range ((hb'.block _ (lt_of_block q5)).trans q5)) Tryd.underlying26 ?_ (tC_infoA hszF) <;> rfl); (try go_simp); (try with_reducible rfl)
      try simp only [Act.put, List.setIfInBounds_toArray, List.set_cons_zero, List.set_cons_succ]
      refine g_run (i := 18) rfl (by kernel_rfl) (by rfl) (fun K hK => ?_)
      go_simp; refine (AL.out _ hS).mono ?_; rintro e u18 ⟨vl, rfl, own9, gg⟩; obtain ⟨al, cl, rfl⟩ := own_slice_n own9; clear own9; have hS := chain hS gg; have q5 := (gg.block _ (lt_of_block q5)).trans q5; refine hK _ _ ⟨gg, ?_⟩; clear hK K gg
      try simp only [Act.put, List.setIfInBounds_toArray, List.set_cons_zero, List.set_cons_succ]
      refine g_take (i := 19) (d := (some 97)) (v := ?_) rfl rfl (by kernel_rfl) (fun _ _ _ h => h) (by rfl) (fun w' hb' => ?_) ?_
      rotate_left
      · (try go_simp); (try with_reducible rfl)
      try simp only [Act.put, List.setIfInBounds_toArray, List.set_cons_zero, List.set_cons_succ]
      refine g_take (i := 20) (d := (some 98)) (v := ?_) rfl rfl (by kernel_rfl) (fun _ _ _ h => h) (by rfl) (fun w' hb' => ?_) ?_
      rotate_left
      · (try go_simp); (try with_reducible rfl)
      try simp only [Act.put, List.setIfInBounds_toArray, List.set_cons_zero, List.set_cons_succ]
      refine g_take (i := 21) (d := (some 99)) (v := ?_) rfl rfl (by kernel_rfl) (fun _ _ _ h => h) (by rfl) (fun w' hb' => ?_) ?_
      rotate_left
      · (try go_simp); (try with_reducible rfl)
      try simp only [Act.put, List.setIfInBounds_toArray, List.set_cons_zero, List.set_cons_succ]
      refine g_take (i := 22) (d := (some 100)) (v := ?_) rfl rfl (by kernel_rfl) (fun _ _ _ h => h) (by rfl) (fun w' hb' => ?_) ?_
      rotate_left
      · (try go_simp); (try with_reducible rfl)
      try simp only [Act.put, List.setIfInBounds_toArray, List.set_cons_zero, List.set_cons_succ]
      refine g_take (i := 23) (d := (some 101)) (v := ?_) rfl rfl (by kernel_rfl) (fun _ _ _ h => h) (by rfl) (fun w' hb' => ?_) ?_
      rotate_left
      · (try go_simp); (try with_reducible rfl)
      try simp only [Act.put, List.setIfInBounds_toArray, List.set_cons_zero, List.set_cons_succ]
      refine g_take (i := 24) (d := (some 102)) (v := ?_) rfl rfl (by kernel_rfl) (fun _ _ _ h => h) (by rfl) (fun w' hb' => ?_) ?_
      rotate_left
      · (refine load_row_op _ _ (.tmp 5) ?_ ?_ ((hb'.block _ (lt_of_block q5)).trans q5) Tryd.underlying28 ?_ hsF <;> rfl); (try go_simp); (try with_reducible rfl)
      try simp only [Act.put, List.setIfInBounds_toArray, List.set_cons_zero, List.set_cons_succ]
      refine g_take (i := 25) (d := (some 103)) (v := ?_) rfl rfl (by kernel_rfl) (fun _ _ _ h => h) (by rfl) (fun w' hb' => ?_) ?_
      rotate_left
      · (refine load_row_op _ _ (.tmp 5) ?_ ?_ ((hb'.block _ (lt_of_block q5)).trans q5) Tryd.underlying28 ?_ hsF <;> rfl); (try go_simp); (try with_reducible rfl)
      try simp only [Act.put, List.setIfInBounds_toArray, List.set_cons_zero, List.set_cons_succ]
      refine g_run (i := 26) rfl (by kernel_rfl) (by rfl) (fun K hK => ?_)
      go_simp; refine (SM.out _ hS).mono ?_; rintro e u26 ⟨rfl, gg⟩; have hS := chain hS gg; have q5 := (gg.block _ (lt_of_block q5)).trans q5; refine hK _ _ ⟨gg, ?_⟩; clear hK K gg
      try simp only [Act.put, List.setIfInBounds_toArray, List.set_cons_zero, List.set_cons_succ]
      refine g_take (i := 27) (d := (some 105)) (v := ?_) rfl rfl (by kernel_rfl) (fun _ _ _ h => h) (by rfl) (fun w' hb' => ?_) ?_
      rotate_left
      · (try go_simp); (try with_reducible rfl)
      try simp only [Act.put, List.setIfInBounds_toArray, List.set_cons_zero, List.set_cons_succ]
      refine g_take (i := 28) (d := (some 106)) (v := ?_) rfl rfl (by kernel_rfl) (fun _ _ _ h => h) (by rfl) (fun w' hb' => ?_) ?_
      rotate_left
      · (try go_simp); (try with_reducible rfl)
      try simp only [Act.put, List.setIfInBounds_toArray, List.set_cons_zero, List.set_cons_succ]
      refine g_run (i := 29) rfl (by kernel_rfl) (by rfl) (fun K hK => ?_)
      go_simp; refine (AW.out _ hS).mono ?_; rintro e u29 ⟨rfl, gg⟩; have hS := chain hS gg; have q5 := (gg.block _ (lt_of_block q5)).trans q5; refine hK _ _ ⟨gg, ?_⟩; clear hK K gg
      try simp only [Act.put, List.setIfInBounds_toArray, List.set_cons_zero, List.set_cons_succ]
      refine g_take (i := 30) (d := (some 108)) (v := ?_) rfl rfl (by kernel_rfl) (fun _ _ _ h => h) (by rfl) (fun w' hb' => ?_) ?_
      rotate_left
      · (try go_simp); (try with_reducible rfl)
      try simp only [Act.put, List.setIfInBounds_toArray, List.set_cons_zero, List.set_cons_succ]
      refine g_take (i := 31) (d := (some 6)) (v := ?_) rfl rfl (by kernel_rfl) (fun _ _ _ h => h) (by rfl) (fun w' hb' => ?_) ?_
      rotate_left
      · (try go_simp); (try with_reducible rfl)
      try simp only [Act.put, List.setIfInBounds_toArray, List.set_cons_zero, List.set_cons_succ]
      refine g_done (by kernel_rfl) ?_
    
      go_wp2_with fail
      go_ret
      exact ⟨rfl, chain BW.out hS⟩
theorem storenews_row (b k : Int) (cs : Array Value) (s : St) (w : World) (hb : (Lit.int .i64 b).wf = true) (hk : (Lit.int .i64 k).wf = true) (h : RdS w cs s) (hsz : SzT s.lv) (hwf : WfT s.lv) (tab : TabAt w) :
    Calls Tryd.prog 3 #[.int .i64 b, .int .i64 k, .agg cs] w fun e w' => e = .returned (.bool true) ∧ Below w.heap.size w w' := storenews_any b k cs s w tab h hsz hwf
end Go.Proofs.YtbdfcgffkonbiaaDoor
