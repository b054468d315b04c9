/- Stores: the law StoreUndoes. Written by wip/tools/gen13lu.py. -/
import Derived.Test.YtbdfcgffkonbiaaDoorQSU1
import Derived.Test.YtbdfcgffkonbiaaDoorQSU4
namespace Go.Proofs.YtbdfcgffkonbiaaDoor
open Go Go.RowKit
set_option linter.unusedVariables false
set_option linter.unusedSimpArgs false
theorem sumN_congr {p : List It → Nat} {lv lv' : Nat → List It} : ∀ n, (∀ b, b < n → lv b = lv' b) → sumN p lv n = sumN p lv' n
  | 0, _ => rfl
  | n + 1, h => by rw [sumN_succ, sumN_succ, sumN_congr n (fun b hb => h b (by omega)), h n (by omega)]
theorem pSame_may {s t : St} (h : pSameS s t = true) : mayS t = true := by
  unfold pSameS tSame at h
  simp only [Bool.and_eq_true, decide_eq_true_eq] at h
  obtain ⟨⟨hm, ⟨e1, e2⟩, e3⟩, ⟨m1, m2⟩, hs⟩ := h
  have hb := sameT_iff.1 hs
  have hf : fitsB t = fitsB s := by
    unfold fitsB sumT
    rw [m1, m2, if_pos rfl, if_pos rfl, if_pos rfl, if_pos rfl, sumN_congr 16 (fun b h => (hb b h).1.symm), sumN_congr (p := List.length) 16 (fun b h => (hb b h).1.symm), e2, e3]
  have hv : versB t.vs t.ver 16 = true := by
    have := (mayS_ver hm).2.2
    unfold versB
    rw [List.all_eq_true]
    intro b hb9
    have hb8 := List.mem_range.1 hb9
    have := this b hb8
    rw [(hb b hb8).2] at this
    exact decide_eq_true (by omega)
  unfold mayS at hm ⊢
  simp only [Bool.and_eq_true] at hm ⊢
  exact ⟨⟨⟨⟨⟨by rw [← e1]; exact hm.1.1.1.1.1, by rw [← e2]; exact hm.1.1.1.1.2⟩, by rw [← e3]; exact hm.1.1.1.2⟩, hv⟩, m2⟩, by rw [hf]; exact hm.2⟩
theorem pSame_no2 {s t : St} (h : mayS t = false) : pSameS s t = false := by
  cases e : pSameS s t with
  | false => rfl
  | true => have := pSame_may e; rw [h] at this; cases this
theorem pSame_eq {s t : St} (h : mayS s = true) (h2 : mayS t = true) : pSameS s t = sameS s t := by
  unfold pSameS tSame sameS
  rw [h, mayS_t h, mayS_t h2]; simp
theorem ed_ne_same (x : Ed) (w : World) : (binOp .neq 68 (.agg #[.string (str x.key), .int .i64 x.v.k, .int .i64 x.v.i, .string (str x.v.s)]) (.agg #[.string (str x.key), .int .i64 x.v.k, .int .i64 x.v.i, .string (str x.v.s)])).run Tryd.prog w = .ok (.bool false) w := by
  go_simp
set_option maxRecDepth 100000 in
set_option maxHeartbeats 4000000 in
theorem storeundoes_any (ca : Array Value) (a : St) (cb : Array Value) (b : St) (w : World) (tab : TabAt w) (ha : RdS w ca a) (hsz : SzT a.lv) (hwf : WfT a.lv) (hb : RdS w cb b) (hszb : SzT b.lv) (hwfb : WfT b.lv) :
    Calls Tryd.prog 6 #[.agg ca, .agg cb] w fun e w' => e = .returned (.bool true) ∧ Below w.heap.size w w' := by
  have TAB := Lib.hid tab
  have hzA0 := ha.size
  have hzB0 := hb.size
  have hsA0 := infoS ha.size
  have hsB0 := infoS hb.size
  obtain ⟨sA, hsA1⟩ : ∃ x, x = fewS a := ⟨_, rfl⟩
  have szA : SzT sA.lv := by rw [hsA1]; exact fewT_sz a.lv
  have wfA : WfT sA.lv := by rw [hsA1]; exact fewT_wf hwf
  have lenA : ∀ b, b < 16 → (sA.lv b).length ≤ 100 := by rw [hsA1]; exact fewT_len a.lv
  obtain ⟨sB, hsB1⟩ : ∃ x, x = fewS b := ⟨_, rfl⟩
  have szB : SzT sB.lv := by rw [hsB1]; exact fewT_sz b.lv
  have wfB : WfT sB.lv := by rw [hsB1]; exact fewT_wf hwfb
  have lenB : ∀ b, b < 16 → (sB.lv b).length ≤ 100 := by rw [hsB1]; exact fewT_len b.lv
  obtain ⟨q2, q3, -, -⟩ := two_allocs w (.cells ca 28) (.cells cb 28)
  have bel : Below w.heap.size w ((w.alloc (.cells ca 28)).alloc (.cells cb 28)) := ((Below.refl _ w).alloc (Nat.le_refl _) _).alloc (by simp) _
  have FA0 := fun W (g : Below w.heap.size w W) => few13_any ca a W (ha.below g (Nat.le_refl _)) hsz
  have FB0 := fun W (g : Below w.heap.size w W) => few13_any cb b W (hb.below g (Nat.le_refl _)) hszb
  unfold FewSP at FA0 FB0
  rw [← hsA1] at FA0
  rw [← hsB1] at FB0
  have FA := Lib.hid FA0
  have FB := Lib.hid FB0
  clear FA0 FB0 ha hb hsz hwf hszb hwfb tab hsA1 hsB1
  go_enter Tryd.func6, Tryd.ntmps6
  go_wp2_with fail
  obtain ⟨W0, hW0⟩ : ∃ W0, W0 = (w.alloc (.cells ca 28)).alloc (.cells cb 28) := ⟨_, rfl⟩
  rw [← hW0] at q2 q3 bel ⊢
  clear hW0
  refine t_start 4 (by kernel_rfl) ?_
  refine t_take (i := 0) (d := (some 9)) (v := ?_) rfl rfl (by kernel_rfl) (fun _ _ _ h => h) (by rfl) (fun w' hb' => ?_) ?_
  rotate_left
  · (refine load_row_op _ _ (.tmp 2) ?_ ?_ ((hb'.block _ (lt_of_block q2)).trans q2) Tryd.underlying28 ?_ hsA0 <;> rfl); (try go_simp); (try with_reducible rfl)
  try simp only [Act.put, List.setIfInBounds_toArray, List.set_cons_zero, List.set_cons_succ]
  refine t_take (i := 2) (d := (some 11)) (v := ?_) rfl rfl (by kernel_rfl) (fun _ _ _ h => h) (by rfl) (fun w' hb' => ?_) ?_
  rotate_left
  · (refine load_row_op _ _ (.tmp 3) ?_ ?_ ((hb'.block _ (lt_of_block q3)).trans q3) Tryd.underlying28 ?_ hsB0 <;> rfl); (try go_simp); (try with_reducible rfl)
  try simp only [Act.put, List.setIfInBounds_toArray, List.set_cons_zero, List.set_cons_succ]
  refine t_run (i := 1) rfl (by kernel_rfl) (by kernel_rfl) (by rfl) (fun K hK => ?_)
  go_simp
  refine (FA.out _ bel.drew).mono ?_
  rintro e y1 ⟨CA, rfl, ownA, gg⟩
  have bz : w.heap.size + 2 ≤ W0.heap.size := lt_of_block q3
  have ownA : OwnS W0.heap.size y1 CA sA := ownA
  have q2 := (gg.block _ (lt_of_block q2)).trans q2
  have q3 := (gg.block _ (lt_of_block q3)).trans q3
  have bel := chain bel.drew gg
  have lz : W0.heap.size ≤ y1.heap.size := gg.size
  refine hK _ _ ⟨gg, ?_⟩
  clear hK K gg
  try simp only [Act.put, List.setIfInBounds_toArray, List.set_cons_zero, List.set_cons_succ]
  refine t_run (i := 3) rfl (by kernel_rfl) (by kernel_rfl) (by rfl) (fun K hK => ?_)
  go_simp
  refine (FB.out _ bel).mono ?_
  rintro e y2 ⟨CB, rfl, ownB, gg⟩
  have ownB : OwnS W0.heap.size y2 CB sB := ownB.base lz
  have q2 := (gg.block _ (lt_of_block q2)).trans q2
  have q3 := (gg.block _ (lt_of_block q3)).trans q3
  have bel := chain bel gg
  have ownA := ownA.below gg
  refine hK _ _ ⟨gg, ?_⟩
  clear hK K gg
  try simp only [Act.put, List.setIfInBounds_toArray, List.set_cons_zero, List.set_cons_succ]
  refine t_into ?_
  refine t_tail (i := 4) rfl (by kernel_rfl) (by kernel_rfl) (by rfl) (fun K hK => ?_)
  refine wp_store_row 28 (.tmp 2) (.tmp 10) rfl _ CA rfl rfl _ ca q2 (infoS ownA.size) (hzA0.trans ownA.size.symm) ownA.one ?_
  refine hK _ _ ?_
  clear hK K
  obtain ⟨y3, hy3⟩ : ∃ W, W = y2.setRow w.heap.size CA := ⟨_, rfl⟩
  have q2 : y3.heap[w.heap.size]? = some (.cells CA 28 (0, 0)) := by rw [hy3]; exact setRow_heap _ _ _ CA _ _ q2
  have q3 : y3.heap[w.heap.size + 1]? = some (.cells cb 28 (0, 0)) := by rw [hy3, setRow_other _ _ _ _ (by omega)]; exact q3
  have bel : Below w.heap.size w y3 := by rw [hy3]; exact below_row bel (Nat.le_refl _) CA
  have ownA : OwnS W0.heap.size y3 CA sA := by rw [hy3]; exact ownA.moved (fun k hk _ => by rw [setRow_other _ _ _ _ (by omega)])
  have ownB : OwnS W0.heap.size y3 CB sB := by rw [hy3]; exact ownB.moved (fun k hk _ => by rw [setRow_other _ _ _ _ (by omega)])
  change wpO _ _ _ _ _ _ _ (y2.setRow w.heap.size CA)
  rw [← hy3]
  clear hy3
  try simp only [Act.put, List.setIfInBounds_toArray, List.set_cons_zero, List.set_cons_succ]
  refine t_tail (i := 5) rfl (by kernel_rfl) (by kernel_rfl) (by rfl) (fun K hK => ?_)
  refine wp_store_row 28 (.tmp 3) (.tmp 12) rfl _ CB rfl rfl _ cb q3 (infoS ownB.size) (hzB0.trans ownB.size.symm) ownB.one ?_
  refine hK _ _ ?_
  clear hK K
  obtain ⟨WS, hWS⟩ : ∃ W, W = y3.setRow (w.heap.size + 1) CB := ⟨_, rfl⟩
  have q2 : WS.heap[w.heap.size]? = some (.cells CA 28 (0, 0)) := by rw [hWS, setRow_other _ _ _ _ (by omega)]; exact q2
  have q3 : WS.heap[w.heap.size + 1]? = some (.cells CB 28 (0, 0)) := by rw [hWS]; exact setRow_heap _ _ _ _ _ _ q3
  have bel : Below w.heap.size w WS := by rw [hWS]; exact below_row bel (by omega) _
  have ownA : OwnS W0.heap.size WS CA sA := by rw [hWS]; exact ownA.moved (fun k hk _ => by rw [setRow_other _ _ _ _ (by omega)])
  have ownB : OwnS W0.heap.size WS CB sB := by rw [hWS]; exact ownB.moved (fun k hk _ => by rw [setRow_other _ _ _ _ (by omega)])
  change wpO _ _ _ _ _ _ _ (y3.setRow (w.heap.size + 1) CB)
  rw [← hWS]
  clear hWS
  try simp only [Act.put, List.setIfInBounds_toArray, List.set_cons_zero, List.set_cons_succ]
  refine t_over (by kernel_rfl) ?_

  have RA := Lib.hid ownA.rd
  have RB0 := Lib.hid ownB.rd
  have hsA := infoS ownA.size
  have hsB := infoS ownB.size
  have BW := Lib.hid bel
  have TS0 := Lib.hid (TAB.out.below bel)
  have hS := Below.refl WS.heap.size WS
  clear bel ownA ownB FA FB TAB
  have UN0 := fun W (g : Below WS.heap.size WS W) => undo13_any CA CB sA sB W (TS0.out.below g) (RA.out.below g (Nat.le_refl _)) (RB0.out.below g (Nat.le_refl _)) szA szB wfA wfB lenA lenB
  unfold UndoZ at UN0
  have RYA0 := fun W (g : Below WS.heap.size WS W) => refMay13_any CA sA W (TS0.out.below g) (RA.out.below g (Nat.le_refl _)) szA wfA lenA
  have RYB0 := fun W (g : Below WS.heap.size WS W) => refMay13_any CB sB W (TS0.out.below g) (RB0.out.below g (Nat.le_refl _)) szB wfB lenB
  have SP0 := fun W (g : Below WS.heap.size WS W) => psame13_any CA CB sA sB W (TS0.out.below g) (RA.out.below g (Nat.le_refl _)) (RB0.out.below g (Nat.le_refl _)) szA szB wfA lenA
  have SR0 := fun W (g : Below WS.heap.size WS W) => same13_any CA CB sA sB W (RA.out.below g (Nat.le_refl _)) (RB0.out.below g (Nat.le_refl _)) lenA lenB
  have UR0 := fun (hma : mayS sA = true) (hmb : mayS sB = true) W (g : Below WS.heap.size WS W) => refUndo13_any CA CB sA sB W (RA.out.below g (Nat.le_refl _)) (RB0.out.below g (Nat.le_refl _)) szA szB hma hmb
  have AW := Lib.hid (fun W (g : Below WS.heap.size WS W) => awake13_any W (TS0.out.below g))
  cases hma : mayS sA with
  | false =>
    rw [hma] at RYA0
    have UN := Lib.hid (fun W (g : Below WS.heap.size WS W) => show Calls Tryd.prog 36 #[.agg CA, .agg CB] W fun e w' => ∃ a c, e = .returned (.tuple #[.slice a 0 c, .int .i64 1]) ∧ Below W.heap.size W w' by
      refine (UN0 W g).mono ?_
      rintro e w' ⟨v, rfl, own, g'⟩
      have hno : ¬ (mayS sA = true ∧ mayS sB = true) := by rw [hma]; simp
      rw [show undoE sA sB = 1 by unfold undoE; rw [if_neg hno]]
      rw [show undoS sA sB = [] by unfold undoS; rw [if_neg hno]] at own
      obtain ⟨a, c, rfl⟩ := own_slice_n own
      exact ⟨a, c, rfl, g'⟩)
    have SP := Lib.hid (fun W (g : Below WS.heap.size WS W) => show Calls Tryd.prog 20 #[.agg CA, .agg CB] W fun e w' => e = .returned (.bool false) ∧ Below W.heap.size W w' by
      have := SP0 W g
      rw [pSame_no hma] at this
      exact this)
    have RYA := Lib.hid RYA0
    
    clear UN0 SP0 RYA0 RYB0 SR0 UR0
    go_wp2_with (first | ((with_reducible refine wpList_load_row (o := ⟨some 14, _, _, _, _, _⟩) rfl 28 (.tmp 2) rfl _ rfl _ CA (0, 0) _ q2 Tryd.underlying28 rfl hsA ?_)) | ((with_reducible refine wpList_load_row (o := ⟨some 15, _, _, _, _, _⟩) rfl 28 (.tmp 3) rfl _ rfl _ CB (0, 0) _ q3 Tryd.underlying28 rfl hsB ?_)))
    refine (UN.out _ hS).mono ?_
    rintro e x1 ⟨a9, c9, rfl, g⟩
    have q2 := (g.block _ (lt_of_block q2)).trans q2
    have q3 := (g.block _ (lt_of_block q3)).trans q3
    have hS := chain hS g
    clear g
    go_wp2_with ((with_reducible refine wpList_load_row (o := ⟨some 19, _, _, _, _, _⟩) rfl 28 (.tmp 2) rfl _ rfl _ CA (0, 0) _ q2 Tryd.underlying28 rfl hsA ?_))
    refine (RYA.out _ hS).mono ?_
    rintro e x2 ⟨rfl, g⟩
    have q2 := (g.block _ (lt_of_block q2)).trans q2
    have q3 := (g.block _ (lt_of_block q3)).trans q3
    have hS := chain hS g
    clear g
    go_wp2_with (first | ((with_reducible refine wpList_load_row_g (o := ⟨some 35, _, _, _, _, _⟩) ?_ 28 (.tmp 2) rfl _ rfl _ CA (0, 0) _ q2 Tryd.underlying28 rfl hsA ?_); rfl) | ((with_reducible refine wpList_load_row_g (o := ⟨some 36, _, _, _, _, _⟩) ?_ 28 (.tmp 3) rfl _ rfl _ CB (0, 0) _ q3 Tryd.underlying28 rfl hsB ?_); rfl))
    refine (SP.out _ hS).mono ?_
    rintro e x4 ⟨rfl, g⟩
    have hS := chain hS g
    clear g
    go_wp2_with fail
    refine (AW.out _ hS).mono ?_
    rintro e x5 ⟨rfl, g⟩
    have hS := chain hS g
    clear g
    go_wp2_with fail
    go_ret
    exact ⟨rfl, chain BW.out hS⟩
  | true =>
    cases hmb : mayS sB with
    | false =>
      rw [hma] at RYA0
      rw [hmb] at RYB0
      have UN := Lib.hid (fun W (g : Below WS.heap.size WS W) => show Calls Tryd.prog 36 #[.agg CA, .agg CB] W fun e w' => ∃ a c, e = .returned (.tuple #[.slice a 0 c, .int .i64 1]) ∧ Below W.heap.size W w' by
        refine (UN0 W g).mono ?_
        rintro e w' ⟨v, rfl, own, g'⟩
        have hno : ¬ (mayS sA = true ∧ mayS sB = true) := by rw [hmb]; simp
        rw [show undoE sA sB = 1 by unfold undoE; rw [if_neg hno]]
        rw [show undoS sA sB = [] by unfold undoS; rw [if_neg hno]] at own
        obtain ⟨a, c, rfl⟩ := own_slice_n own
        exact ⟨a, c, rfl, g'⟩)
      have SP := Lib.hid (fun W (g : Below WS.heap.size WS W) => show Calls Tryd.prog 20 #[.agg CA, .agg CB] W fun e w' => e = .returned (.bool false) ∧ Below W.heap.size W w' by
        have := SP0 W g
        rw [pSame_no2 hmb] at this
        exact this)
      have RYA := Lib.hid RYA0
      have RYB := Lib.hid RYB0
      clear UN0 SP0 RYA0 RYB0 SR0 UR0
      go_wp2_with (first | ((with_reducible refine wpList_load_row (o := ⟨some 14, _, _, _, _, _⟩) rfl 28 (.tmp 2) rfl _ rfl _ CA (0, 0) _ q2 Tryd.underlying28 rfl hsA ?_)) | ((with_reducible refine wpList_load_row (o := ⟨some 15, _, _, _, _, _⟩) rfl 28 (.tmp 3) rfl _ rfl _ CB (0, 0) _ q3 Tryd.underlying28 rfl hsB ?_)))
      refine (UN.out _ hS).mono ?_
      rintro e x1 ⟨a9, c9, rfl, g⟩
      have q2 := (g.block _ (lt_of_block q2)).trans q2
      have q3 := (g.block _ (lt_of_block q3)).trans q3
      have hS := chain hS g
      clear g
      go_wp2_with ((with_reducible refine wpList_load_row (o := ⟨some 19, _, _, _, _, _⟩) rfl 28 (.tmp 2) rfl _ rfl _ CA (0, 0) _ q2 Tryd.underlying28 rfl hsA ?_))
      refine (RYA.out _ hS).mono ?_
      rintro e x2 ⟨rfl, g⟩
      have q2 := (g.block _ (lt_of_block q2)).trans q2
      have q3 := (g.block _ (lt_of_block q3)).trans q3
      have hS := chain hS g
      clear g
      go_wp2_with ((with_reducible refine wpList_load_row_g (o := ⟨some 23, _, _, _, _, _⟩) ?_ 28 (.tmp 3) rfl _ rfl _ CB (0, 0) _ q3 Tryd.underlying28 rfl hsB ?_); rfl)
      refine (RYB.out _ hS).mono ?_
      rintro e x3 ⟨rfl, g⟩
      have q2 := (g.block _ (lt_of_block q2)).trans q2
      have q3 := (g.block _ (lt_of_block q3)).trans q3
      have hS := chain hS g
      clear g
      go_wp2_with (first | ((with_reducible refine wpList_load_row_g (o := ⟨some 35, _, _, _, _, _⟩) ?_ 28 (.tmp 2) rfl _ rfl _ CA (0, 0) _ q2 Tryd.underlying28 rfl hsA ?_); rfl) | ((with_reducible refine wpList_load_row_g (o := ⟨some 36, _, _, _, _, _⟩) ?_ 28 (.tmp 3) rfl _ rfl _ CB (0, 0) _ q3 Tryd.underlying28 rfl hsB ?_); rfl))
      refine (SP.out _ hS).mono ?_
      rintro e x4 ⟨rfl, g⟩
      have hS := chain hS g
      clear g
      go_wp2_with fail
      refine (AW.out _ hS).mono ?_
      rintro e x5 ⟨rfl, g⟩
      have hS := chain hS g
      clear g
      go_wp2_with fail
      go_ret
      exact ⟨rfl, chain BW.out hS⟩
    | true =>
      rw [hma] at RYA0
      rw [hmb] at RYB0
      obtain ⟨U, hU⟩ : ∃ U, U = undoM (allS sA.lv) (allS sB.lv) := ⟨_, rfl⟩
      have UN := Lib.hid (fun W (g : Below WS.heap.size WS W) => show Calls Tryd.prog 36 #[.agg CA, .agg CB] W fun e w' => ∃ v, e = .returned (.tuple #[v, .int .i64 0]) ∧ w'.ownsRow W.heap.size 68 4 v U.length (U.flatMap edC) ∧ Below W.heap.size W w' by
        refine (UN0 W g).mono ?_
        rintro e w' ⟨v, rfl, own, g'⟩
        rw [show undoE sA sB = 0 by unfold undoE; rw [if_pos ⟨hma, hmb⟩]]
        rw [show undoS sA sB = U by unfold undoS; rw [if_pos ⟨hma, hmb⟩, hU]] at own
        exact ⟨v, rfl, own, g'⟩)
      have UR1 := UR0 hma hmb
      rw [← hU] at UR1
      have UR := Lib.hid UR1
      obtain ⟨RB, hRB⟩ : ∃ r, r = sameS sA sB := ⟨_, rfl⟩
      rw [← hRB] at SR0
      have SR := Lib.hid SR0
      have SP := Lib.hid (fun W (g : Below WS.heap.size WS W) => show Calls Tryd.prog 20 #[.agg CA, .agg CB] W fun e w' => e = .returned (.bool RB) ∧ Below W.heap.size W w' by
        have := SP0 W g
        rw [pSame_eq hma hmb, ← hRB] at this
        exact this)
      have RYA := Lib.hid RYA0
      have RYB := Lib.hid RYB0
      have UL : U.length ≤ 2048 := by
        have h1 := undoM_len _ (allS sA.lv) (allS sB.lv) (Nat.le_refl _)
        have h2 := allS_len (mayS_t hma)
        have h3 := allS_len (mayS_t hmb)
        rw [hU]; omega
      clear UN0 SP0 RYA0 RYB0 SR0 UR0 UR1 hU hRB hma hmb
      go_wp2_with (first | ((with_reducible refine wpList_load_row (o := ⟨some 14, _, _, _, _, _⟩) rfl 28 (.tmp 2) rfl _ rfl _ CA (0, 0) _ q2 Tryd.underlying28 rfl hsA ?_)) | ((with_reducible refine wpList_load_row (o := ⟨some 15, _, _, _, _, _⟩) rfl 28 (.tmp 3) rfl _ rfl _ CB (0, 0) _ q3 Tryd.underlying28 rfl hsB ?_)))
      refine (UN.out _ hS).mono ?_
      rintro e x1 ⟨v1, rfl, own1, g⟩
      have q2 := (g.block _ (lt_of_block q2)).trans q2
      have q3 := (g.block _ (lt_of_block q3)).trans q3
      have hS := chain hS g
      clear g
      have X1 := Below.refl x1.heap.size x1
      obtain ⟨a1, c1, rfl⟩ := own_slice_n own1
      have RU1 := Lib.hid (own_rdk edC_len own1)
      clear own1
      go_wp2_with ((with_reducible refine wpList_load_row (o := ⟨some 19, _, _, _, _, _⟩) rfl 28 (.tmp 2) rfl _ rfl _ CA (0, 0) _ q2 Tryd.underlying28 rfl hsA ?_))
      refine (RYA.out _ hS).mono ?_
      rintro e x2 ⟨rfl, g⟩
      have q2 := (g.block _ (lt_of_block q2)).trans q2
      have q3 := (g.block _ (lt_of_block q3)).trans q3
      have hS := chain hS g
      have X1 := chain X1 g
      clear g
      go_wp2_with ((with_reducible refine wpList_load_row_g (o := ⟨some 23, _, _, _, _, _⟩) ?_ 28 (.tmp 3) rfl _ rfl _ CB (0, 0) _ q3 Tryd.underlying28 rfl hsB ?_); rfl)
      refine (RYB.out _ hS).mono ?_
      rintro e x3 ⟨rfl, g⟩
      have q2 := (g.block _ (lt_of_block q2)).trans q2
      have q3 := (g.block _ (lt_of_block q3)).trans q3
      have hS := chain hS g
      have X1 := chain X1 g
      clear g
      go_wp2_with (first | ((with_reducible refine wpList_load_row (o := ⟨some 43, _, _, _, _, _⟩) rfl 28 (.tmp 2) rfl _ rfl _ CA (0, 0) _ q2 Tryd.underlying28 rfl hsA ?_)) | ((with_reducible refine wpList_load_row (o := ⟨some 44, _, _, _, _, _⟩) rfl 28 (.tmp 3) rfl _ rfl _ CB (0, 0) _ q3 Tryd.underlying28 rfl hsB ?_)))
      refine (UR.out _ hS).mono ?_
      rintro e x4 ⟨v2, rfl, own2, g⟩
      have q2 := (g.block _ (lt_of_block q2)).trans q2
      have q3 := (g.block _ (lt_of_block q3)).trans q3
      have hS := chain hS g
      have X1 := chain X1 g
      clear g
      have X2 := Below.refl x4.heap.size x4
      obtain ⟨a2, c2, rfl⟩ := own_slice_n own2
      have RU2 := Lib.hid (own_rdk edC_len own2)
      have RU1 := Lib.hid (RdK.below RU1.out X1 (Nat.le_refl _))
      clear own2 X1
      go_wp2_with fail
      refine g_start (by kernel_rfl) ?_
      refine g_take (i := 0) (d := (some 46)) (v := ?_) rfl rfl (by kernel_rfl) (fun _ _ _ h => h) (by rfl) (fun w' hb' => ?_) ?_
      rotate_left
      · (try go_simp); (try with_reducible rfl)
      try simp only [Act.put, List.setIfInBounds_toArray, List.set_cons_zero, List.set_cons_succ]
      refine g_take (i := 1) (d := (some 47)) (v := ?_) rfl rfl (by kernel_rfl) (fun _ _ _ h => h) (by rfl) (fun w' hb' => ?_) ?_
      rotate_left
      · (try go_simp); (try with_reducible rfl)
      try simp only [Act.put, List.setIfInBounds_toArray, List.set_cons_zero, List.set_cons_succ]
      refine g_take (i := 2) (d := (some 48)) (v := ?_) rfl rfl (by kernel_rfl) (fun _ _ _ h => h) (by rfl) (fun w' hb' => ?_) ?_
      rotate_left
      · (try go_simp); (try with_reducible rfl)
      try simp only [Act.put, List.setIfInBounds_toArray, List.set_cons_zero, List.set_cons_succ]
      refine g_take (i := 3) (d := (some 49)) (v := ?_) rfl rfl (by kernel_rfl) (fun _ _ _ h => h) (by rfl) (fun w' hb' => ?_) ?_
      rotate_left
      · (try go_simp); (try with_reducible rfl)
      try simp only [Act.put, List.setIfInBounds_toArray, List.set_cons_zero, List.set_cons_succ]
      refine g_take (i := 4) (d := (some 50)) (v := ?_) rfl rfl (by kernel_rfl) (fun _ _ _ h => h) (by rfl) (fun w' hb' => ?_) ?_
      rotate_left
      · (try go_simp); (try with_reducible rfl)
      try simp only [Act.put, List.setIfInBounds_toArray, List.set_cons_zero, List.set_cons_succ]
      refine g_take (i := 5) (d := (some 51)) (v := ?_) rfl rfl (by kernel_rfl) (fun _ _ _ h => h) (by rfl) (fun w' hb' => ?_) ?_
      rotate_left
      · (try go_simp); (try with_reducible rfl)
      try simp only [Act.put, List.setIfInBounds_toArray, List.set_cons_zero, List.set_cons_succ]
      refine g_take (i := 6) (d := (some 52)) (v := ?_) rfl rfl (by kernel_rfl) (fun _ _ _ h => h) (by rfl) (fun w' hb' => ?_) ?_
      rotate_left
      · (try go_simp); (try with_reducible rfl)
      try simp only [Act.put, List.setIfInBounds_toArray, List.set_cons_zero, List.set_cons_succ]
      refine g_take (i := 7) (d := (some 53)) (v := ?_) rfl rfl (by kernel_rfl) (fun _ _ _ h => h) (by rfl) (fun w' hb' => ?_) ?_
      rotate_left
      · (try go_simp); (try with_reducible rfl)
      try simp only [Act.put, List.setIfInBounds_toArray, List.set_cons_zero, List.set_cons_succ]
      refine g_take (i := 8) (d := (some 54)) (v := ?_) rfl rfl (by kernel_rfl) (fun _ _ _ h => h) (by rfl) (fun w' hb' => ?_) ?_
      rotate_left
      · (try go_simp); (try with_reducible rfl)
      try simp only [Act.put, List.setIfInBounds_toArray, List.set_cons_zero, List.set_cons_succ]
      refine g_take (i := 9) (d := (some 55)) (v := ?_) rfl rfl (by kernel_rfl) (fun _ _ _ h => h) (by rfl) (fun w' hb' => ?_) ?_
      rotate_left
      · (try go_simp); (try with_reducible rfl)
      try simp only [Act.put, List.setIfInBounds_toArray, List.set_cons_zero, List.set_cons_succ]
      refine g_take (i := 10) (d := (some 56)) (v := ?_) rfl rfl (by kernel_rfl) (fun _ _ _ h => h) (by rfl) (fun w' hb' => ?_) ?_
      rotate_left
      · (refine load_row_op _ _ (.tmp 2) ?_ ?_ ((hb'.block _ (lt_of_block q2)).trans q2) Tryd.underlying28 ?_ hsA <;> rfl); (try go_simp); (try with_reducible rfl)
      try simp only [Act.put, List.setIfInBounds_toArray, List.set_cons_zero, List.set_cons_succ]
      refine g_take (i := 11) (d := (some 57)) (v := ?_) rfl rfl (by kernel_rfl) (fun _ _ _ h => h) (by rfl) (fun w' hb' => ?_) ?_
      rotate_left
      · (refine load_row_op _ _ (.tmp 3) ?_ ?_ ((hb'.block _ (lt_of_block q3)).trans q3) Tryd.underlying28 ?_ hsB <;> rfl); (try go_simp); (try with_reducible rfl)
      try simp only [Act.put, List.setIfInBounds_toArray, List.set_cons_zero, List.set_cons_succ]
      refine g_take (i := 13) (d := (some 59)) (v := ?_) rfl rfl (by kernel_rfl) (fun _ _ _ h => h) (by rfl) (fun w' hb' => ?_) ?_
      rotate_left
      · (refine load_row_op _ _ (.tmp 2) ?_ ?_ ((hb'.block _ (lt_of_block q2)).trans q2) Tryd.underlying28 ?_ hsA <;> rfl); (try go_simp); (try with_reducible rfl)
      try simp only [Act.put, List.setIfInBounds_toArray, List.set_cons_zero, List.set_cons_succ]
      refine g_take (i := 14) (d := (some 60)) (v := ?_) rfl rfl (by kernel_rfl) (fun _ _ _ h => h) (by rfl) (fun w' hb' => ?_) ?_
      rotate_left
      · (refine load_row_op _ _ (.tmp 3) ?_ ?_ ((hb'.block _ (lt_of_block q3)).trans q3) Tryd.underlying28 ?_ hsB <;> rfl); (try go_simp); (try with_reducible rfl)
      try simp only [Act.put, List.setIfInBounds_toArray, List.set_cons_zero, List.set_cons_succ]
      refine g_run (i := 12) rfl (by kernel_rfl) (by rfl) (fun K hK => ?_)
      go_simp; refine (SP.out _ (Below.drew hS)).mono ?_; rintro e u12 ⟨rfl, gg⟩; have hS := chain (Below.drew hS) gg; have X2 := chain (Below.drew X2) gg; have q2 := (gg.block _ (lt_of_block q2)).trans q2; have q3 := (gg.block _ (lt_of_block q3)).trans q3; refine hK _ _ ⟨gg, ?_⟩; clear hK K gg
      try simp only [Act.put, List.setIfInBounds_toArray, List.set_cons_zero, List.set_cons_succ]
      refine g_run (i := 15) rfl (by kernel_rfl) (by rfl) (fun K hK => ?_)
      go_simp; refine (SR.out _ hS).mono ?_; rintro e u15 ⟨rfl, gg⟩; have hS := chain hS gg; have X2 := chain X2 gg; have q2 := (gg.block _ (lt_of_block q2)).trans q2; have q3 := (gg.block _ (lt_of_block q3)).trans q3; refine hK _ _ ⟨gg, ?_⟩; clear hK K gg
      try simp only [Act.put, List.setIfInBounds_toArray, List.set_cons_zero, List.set_cons_succ]
      refine g_take (i := 16) (d := (some 62)) (v := ?_) rfl rfl (by kernel_rfl) (fun _ _ _ h => h) (by rfl) (fun w' hb' => ?_) ?_
      rotate_left
      · (try go_simp); (try with_reducible rfl)
      try simp only [Act.put, List.setIfInBounds_toArray, List.set_cons_zero, List.set_cons_succ]
      refine g_take (i := 17) (d := (some 63)) (v := ?_) rfl rfl (by kernel_rfl) (fun _ _ _ h => h) (by rfl) (fun w' hb' => ?_) ?_
      rotate_left
      · (try go_simp); (try with_reducible rfl)
      try simp only [Act.put, List.setIfInBounds_toArray, List.set_cons_zero, List.set_cons_succ]
      refine g_done (by kernel_rfl) ?_
      go_wp2_with fail
      obtain ⟨N, hN⟩ : ∃ N, N = U.length := ⟨_, rfl⟩
      have HN := Lib.hid hN
      rw [← hN] at UL ⊢
      have HNN := hN
      clear hN
      go_loopw [8] (fun i wr => ∃ (j : Nat), j ≤ N ∧ i = .int .i64 (j : Int) ∧ Below x4.heap.size x4 wr ∧ Below WS.heap.size WS wr) (fun i _ => 3000 - (intOf i).toNat)
      case atStart => exact ⟨0, Nat.zero_le _, rfl, X2, hS⟩
      case round =>
        obtain ⟨j, hj, rfl, X2, hS⟩ := hrel
        by_cases hlt : j < N
        · have hltU : j < U.length := by rw [← HN.out]; exact hlt
          obtain ⟨b1, o1, rfl, hb1, hc1⟩ := RdK.cell edC_len (RdK.below RU1.out X2 (Nat.le_refl _)) j hltU
          obtain ⟨b2, o2, rfl, hb2, hc2⟩ := RdK.cell edC_len (RdK.below RU2.out X2 (Nat.le_refl _)) j hltU
          obtain ⟨x, hx⟩ : ∃ x, x = U[j]'hltU := ⟨_, rfl⟩
          rw [← hx] at hc1 hc2
          obtain ⟨c0, c1', c2', c3⟩ := ed_cells (o := o1 + j * 4) (fun i hi => by rw [Nat.add_assoc]; exact hc1 i hi)
          obtain ⟨d0, d1, d2, d3⟩ := ed_cells (o := o2 + j * 4) (fun i hi => by rw [Nat.add_assoc]; exact hc2 i hi)
          have VE := fun W => ed_ne_same x W
          clear hx hc1 hc2 hltU
          go_wp2_with fail
          refine g_start (by kernel_rfl) ?_
          refine g_take (i := 0) (d := (some 70)) (v := ?_) rfl rfl (by kernel_rfl) (fun _ _ _ h => h) (by rfl) (fun w' hb' => ?_) ?_
          rotate_left
          · (try go_simp); (try with_reducible rfl)
          try simp only [Act.put, List.setIfInBounds_toArray, List.set_cons_zero, List.set_cons_succ]
          refine g_take (i := 1) (d := (some 71)) (v := ?_) rfl rfl (by kernel_rfl) (fun _ _ _ h => h) (by rfl) (fun w' hb' => ?_) ?_
          rotate_left
          · (try go_simp); (try with_reducible rfl)
          try simp only [Act.put, List.setIfInBounds_toArray, List.set_cons_zero, List.set_cons_succ]
          refine g_take (i := 2) (d := (some 72)) (v := ?_) rfl rfl (by kernel_rfl) (fun _ _ _ h => h) (by rfl) (fun w' hb' => ?_) ?_
          rotate_left
          · (try go_simp); (try with_reducible rfl)
          try simp only [Act.put, List.setIfInBounds_toArray, List.set_cons_zero, List.set_cons_succ]
          refine g_take (i := 3) (d := (some 73)) (v := ?_) rfl rfl (by kernel_rfl) (fun _ _ _ h => h) (by rfl) (fun w' hb' => ?_) ?_
          rotate_left
          · have zb := hb1; have z0 := (hb'.cell (p := ⟨b1, o1 + j * 4, none⟩) hb1).trans c0; have z1 := (hb'.cell (p := ⟨b1, o1 + j * 4 + 1, none⟩) hb1).trans c1'; have z2 := (hb'.cell (p := ⟨b1, o1 + j * 4 + 2, none⟩) hb1).trans c2'; have z3 := (hb'.cell (p := ⟨b1, o1 + j * 4 + 3, none⟩) hb1).trans c3; (try go_simp); (try with_reducible rfl)
          try simp only [Act.put, List.setIfInBounds_toArray, List.set_cons_zero, List.set_cons_succ]
          refine g_take (i := 4) (d := (some 74)) (v := ?_) rfl rfl (by kernel_rfl) (fun _ _ _ h => h) (by rfl) (fun w' hb' => ?_) ?_
          rotate_left
          · (try go_simp); (try with_reducible rfl)
          try simp only [Act.put, List.setIfInBounds_toArray, List.set_cons_zero, List.set_cons_succ]
          refine g_take (i := 5) (d := (some 75)) (v := ?_) rfl rfl (by kernel_rfl) (fun _ _ _ h => h) (by rfl) (fun w' hb' => ?_) ?_
          rotate_left
          · (try go_simp); (try with_reducible rfl)
          try simp only [Act.put, List.setIfInBounds_toArray, List.set_cons_zero, List.set_cons_succ]
          refine g_take (i := 6) (d := (some 76)) (v := ?_) rfl rfl (by kernel_rfl) (fun _ _ _ h => h) (by rfl) (fun w' hb' => ?_) ?_
          rotate_left
          · (try go_simp); (try with_reducible rfl)
          try simp only [Act.put, List.setIfInBounds_toArray, List.set_cons_zero, List.set_cons_succ]
          refine g_take (i := 7) (d := (some 77)) (v := ?_) rfl rfl (by kernel_rfl) (fun _ _ _ h => h) (by rfl) (fun w' hb' => ?_) ?_
          rotate_left
          · have z0 := (hb'.cell (p := ⟨b2, o2 + j * 4, none⟩) hb2).trans d0; have z1 := (hb'.cell (p := ⟨b2, o2 + j * 4 + 1, none⟩) hb2).trans d1; have z2 := (hb'.cell (p := ⟨b2, o2 + j * 4 + 2, none⟩) hb2).trans d2; have z3 := (hb'.cell (p := ⟨b2, o2 + j * 4 + 3, none⟩) hb2).trans d3; (try go_simp); (try with_reducible rfl)
          try simp only [Act.put, List.setIfInBounds_toArray, List.set_cons_zero, List.set_cons_succ]
          refine g_take (i := 8) (d := (some 78)) (v := ?_) rfl rfl (by kernel_rfl) (fun _ _ _ h => h) (by rfl) (fun w' hb' => ?_) ?_
          rotate_left
          · (try go_simp); (try with_reducible rfl)
          try simp only [Act.put, List.setIfInBounds_toArray, List.set_cons_zero, List.set_cons_succ]
          refine g_done (by kernel_rfl) ?_
      
          go_wp2_with fail
          exact ⟨⟨j + 1, by omega, by push_cast; rfl, X2.drew, hS.drew⟩, by simp [intOf]; omega⟩
        · obtain rfl : j = N := by omega
          go_wp2_with fail
          refine (AW.out _ hS).mono ?_
          rintro e x5 ⟨rfl, g⟩
          have hS := chain hS g
          clear g
          go_wp2_with fail
          go_ret
          exact ⟨rfl, chain BW.out hS⟩
theorem storeundoes_row (ca : Array Value) (a : St) (cb : Array Value) (b : St) (w : World) (ha : RdS w ca a) (hsz : SzT a.lv) (hwf : WfT a.lv) (hb : RdS w cb b) (hszb : SzT b.lv) (hwfb : WfT b.lv) (tab : TabAt w) :
    Calls Tryd.prog 6 #[.agg ca, .agg cb] w fun e w' => e = .returned (.bool true) ∧ Below w.heap.size w w' := storeundoes_any ca a cb b w tab ha hsz hwf hb hszb hwfb
end Go.Proofs.YtbdfcgffkonbiaaDoor
