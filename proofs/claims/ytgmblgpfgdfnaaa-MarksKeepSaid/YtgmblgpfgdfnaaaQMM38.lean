/- Marks: the law MarksMove. Written by wip/tools/gen30l.py. -/
import Derived.Test.YtgmblgpfgdfnaaaQMM37
import Derived.Test.YtgmblgpfgdfnaaaQMM28
namespace Go.Proofs.Ytgmblgpfgdfnaaa
open Go Go.RowKit
set_option linter.unusedVariables false
set_option linter.unusedSimpArgs false
set_option maxRecDepth 100000

theorem few_len (m : Ms) : (fewM m).l.length ≤ 260 := by unfold fewM; simp only [List.length_take]; omega
set_option maxHeartbeats 2000000 in
theorem moves_walk (m : Ms) (v : Value) (lo ro : Int) (w : World) (h : RdM w m v) : Calls Try.prog 4 #[mV m v, .int .i64 lo, .int .i64 ro] w fun e w' => e = .returned (.bool true) ∧ Below w.heap.size w w' := by
  have FA0 := fun w' (g : Below w.heap.size w w') => few_any m v w' (h.below g (Nat.le_refl _))
  have hfl := few_len m
  have AW := Lib.hid awake_any
  obtain ⟨ao, len, cap, rfl⟩ := rdt_val h.l
  obtain ⟨low0, root0, l0⟩ := m
  unfold fewM at FA0 hfl
  unfold mV at FA0 ⊢
  simp only at FA0 hfl ⊢
  obtain ⟨l, hl⟩ : ∃ l, l = l0.take 260 := ⟨_, rfl⟩
  rw [← hl] at FA0 hfl
  have FA := Lib.hid FA0
  have HFL := Lib.hid hfl
  have q0 := heap_alloc_new w (.cells #[.int .i64 low0, .int .i64 root0, .slice ao len cap] 24)
  have bel := (Below.refl w.heap.size w).alloc (Nat.le_refl _) (.cells #[.int .i64 low0, .int .i64 root0, .slice ao len cap] 24)
  obtain ⟨d0, d1, d2, df⟩ := block_cells3 q0
  clear h FA0 hl hfl
  go_enter Try.func4, Try.ntmps4
  go_wp2_with fail
  refine (FA.out _ bel).mono ?_
  rintro e w1 ⟨a1, n1, k1, rfl, rd, g⟩
  simp only [mV]
  replace q0 := (g.block _ (lt_of_block q0)).trans q0
  replace bel := chain bel g
  clear d0 d1 d2 df g FA
  obtain ⟨d0, d1, d2, df⟩ := block_cells3 q0
  go_wp2_with fail
  obtain ⟨W1, hW1⟩ : ∃ W, W = (((w1.setCell ⟨w.heap.size, 0, none⟩ (.int .i64 low0)).setCell ⟨w.heap.size, 1, none⟩ (.int .i64 root0)).setCell ⟨w.heap.size, 2, none⟩ (.slice a1 n1 k1)) := ⟨_, rfl⟩
  rw [← hW1]
  have G1 : w1.grownBy W1 (some w.heap.size) := by rw [hW1]; exact set3_grown
  have p0 : W1.heap[w.heap.size]? = some (.cells #[.int .i64 low0, .int .i64 root0, .slice a1 n1 k1] 24 (0, 0)) := by rw [hW1]; exact set3_new q0
  have HR1 := Lib.hid (show RdM W1 ⟨low0, root0, l⟩ (.slice a1 n1 k1) from ⟨rdt_three q0 G1 rd.l, rd.b⟩)
  have B1 := below_grownN bel G1 bel.size (fun q e => by injection e with e; omega)
  have MA0 := move_any ⟨low0, root0, l⟩ (.slice a1 n1 k1) lo ro W1 HR1.out (Nat.le_trans HFL.out (by decide))
  have MB0 := fun w' (g : Below W1.heap.size W1 w') => refMove_any ⟨low0, root0, l⟩ (.slice a1 n1 k1) lo ro w' (HR1.out.below g (Nat.le_refl _)) (Nat.le_trans HFL.out (by decide))
  obtain ⟨R, hR⟩ : ∃ R, R = moveR ⟨low0, root0, l⟩ lo ro := ⟨_, rfl⟩
  obtain ⟨E, hE⟩ : ∃ E, E = moveE ⟨low0, root0, l⟩ lo ro := ⟨_, rfl⟩
  rw [← hR, ← hE] at MA0 MB0
  obtain ⟨rl, rr, rls⟩ := R
  unfold GivesMM at MA0 MB0
  obtain ⟨F, hF⟩ : ∃ F : Int, F = (E : Int) := ⟨_, rfl⟩
  rw [← hF] at MA0 MB0
  unfold mV at MA0 MB0
  simp only at MA0 MB0
  have MA := Lib.hid MA0
  have MB := Lib.hid MB0
  clear hW1 G1 rd bel q0 d0 d1 d2 df MA0 MB0 hR hE hF
  refine MA.out.mono ?_
  rintro e w2 ⟨a2, n2, k2, rfl, rd2, g⟩
  have p2 := (g.block _ (lt_of_block p0)).trans p0
  have G2 := g
  have q7 : (w2.alloc (.cells #[.int .i64 rl, .int .i64 rr, .slice a2 n2 k2] 24)).heap[w.heap.size]? = some (.cells #[.int .i64 low0, .int .i64 root0, .slice a1 n1 k1] 24 (0, 0)) := (((Below.refl w2.heap.size w2).alloc (Nat.le_refl _) _).block _ (lt_of_block p2)).trans p2
  obtain ⟨d0, d1, d2, df⟩ := block_cells3 q7
  go_wp2_with fail
  obtain ⟨W3, hW3⟩ : ∃ W, W = w2.alloc (.cells #[.int .i64 rl, .int .i64 rr, .slice a2 n2 k2] 24) := ⟨_, rfl⟩
  rw [← hW3] at q7 ⊢
  have t7 : W3.heap[w2.heap.size]? = some (.cells #[.int .i64 rl, .int .i64 rr, .slice a2 n2 k2] 24 (0, 0)) := by rw [hW3]; exact heap_alloc_new _ _
  have G3 : Below w2.heap.size w2 W3 := by rw [hW3]; exact (Below.refl _ _).alloc (Nat.le_refl _) _
  have r2 := rd2.below G3 (Nat.le_refl _)
  have GG := chain G2 G3
  clear hW3 d0 d1 d2 df p2 rd2 g
  refine (MB.out _ GG).mono ?_
  rintro e w4 ⟨a4, n4, k4, rfl, rd4, g⟩
  have t7' := (g.block _ (lt_of_block t7)).trans t7
  have r2' := r2.below g (Nat.le_refl _)
  have G4 : Below w4.heap.size w4 (w4.alloc (.cells #[.int .i64 rl, .int .i64 rr, .slice a4 n4 k4] 24)) := (Below.refl _ _).alloc (Nat.le_refl _) _
  have t7e := (G4.block _ (lt_of_block t7')).trans t7'
  have t9e := heap_alloc_new w4 (.cells #[.int .i64 rl, .int .i64 rr, .slice a4 n4 k4] 24)
  have ra := r2'.below G4 (Nat.le_refl _)
  have rb := rd4.below G4 (Nat.le_refl _)
  have SA0 := sameM_yes ⟨rl, rr, rls⟩ (.slice a2 n2 k2) (.slice a4 n4 k4) _ ra.l rb.l
  unfold mV at SA0
  simp only at SA0
  have BF := Lib.hid (chain B1 (chain GG (chain g G4)))
  obtain ⟨d0, d1, d2, df⟩ := block_cells3 t7e
  obtain ⟨e0, e1, e2, ef⟩ := block_cells3 t9e
  have SA := Lib.hid SA0
  clear SA0 ra rb t7 t7' r2 r2' rd4 g G4 GG G2 G3 B1 p0 q7 t7e t9e
  go_wp2_with (first | ((with_reducible refine (SA.out).mono ?_); rintro e w5 ⟨rfl, g5⟩) | ((with_reducible refine (AW.out _).mono ?_); rintro e w6 ⟨rfl, g6⟩))
  go_ret
  exact ⟨rfl, chain BF.out (chain g5 g6)⟩
/-- The law MarksMove, as its row has it. -/
theorem moves_row (m : Ms) (v : Value) (lo ro : Int) (w : World) (h : RdM w m v) (h1 : (Lit.int .i64 lo).wf = true) (h2 : (Lit.int .i64 ro).wf = true) : Calls Try.prog 4 #[mV m v, .int .i64 lo, .int .i64 ro] w fun e w' => e = .returned (.bool true) ∧ Below w.heap.size w w' := moves_walk m v lo ro w h
end Go.Proofs.Ytgmblgpfgdfnaaa
