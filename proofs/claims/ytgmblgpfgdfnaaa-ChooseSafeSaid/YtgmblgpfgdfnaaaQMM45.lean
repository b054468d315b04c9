/- Choose: At, of changes that may be chosen from. -/
import Derived.Test.YtgmblgpfgdfnaaaQMM38
namespace Go.Proofs.Ytgmblgpfgdfnaaa
open Go Go.RowKit
set_option linter.unusedVariables false
set_option linter.unusedSimpArgs false
set_option maxRecDepth 100000

set_option maxHeartbeats 2000000 in
theorem atP_no (n : Int) (l : List Cg) (v : Value) (seq : Int) (w : World) (h : RdCg w v l) (hm : MayP n l) (hq : seq ≤ 9223372036854775807) (hs : seq ≤ (lowZ l).1 ∨ 16 < seq - (lowZ l).1) :
    Calls Try.prog 25 #[v, .int .i64 n, .int .i64 seq] w fun e w' => e = .returned (.tuple #[.agg #[.int .i64 0, .int .i64 0, .string (str []), .bool false], .int .i64 22]) ∧ Below w.heap.size w w' := by
  have h0 : 0 < l.length := by have := hm.len; have := may_n hm; omega
  have hl := lowZ_in hm
  have MY := Lib.hid (fun w' (g : Below w.heap.size w w') => choMay_yes n l v w' (h.below g (Nat.le_refl _)) hm)
  have LO0 := fun w' (g : Below w.heap.size w w') => lowest_any l v w' (h.below g (Nat.le_refl _)) h0
  obtain ⟨R, hR⟩ : ∃ R, R = lowZ l := ⟨_, rfl⟩
  rw [← hR] at LO0 hs hl
  obtain ⟨ra, rb⟩ := R
  simp only at LO0 hs hl
  have LO := Lib.hid LO0
  obtain ⟨hl1, hl2⟩ := hl
  have q0 := heap_alloc_new w (.cells #[.int .i64 0, .int .i64 0, .string ⟨#[]⟩, .bool false] 63)
  have b0 := (Below.refl w.heap.size w).alloc (Nat.le_refl _) (.cells #[.int .i64 0, .int .i64 0, .string ⟨#[]⟩, .bool false] 63)
  clear LO0 hR h0 h hm
  by_cases h1 : seq ≤ ra
  · have z1 : decide (seq ≤ ra) = true := decide_eq_true h1
    clear hs
    go_enter Try.func25, Try.ntmps25
    go_wp2_with (first | ((with_reducible refine (MY.out _ b0).mono ?_); rintro e w1 ⟨rfl, g1⟩; (replace q0 := (g1.block _ (lt_of_block q0)).trans q0); (replace b0 := chain b0 g1)) | ((with_reducible refine (LO.out _ b0).mono ?_); rintro e w2 ⟨rfl, g2⟩; (replace q0 := (g2.block _ (lt_of_block q0)).trans q0); (replace b0 := chain b0 g2); (obtain ⟨d0, d1, d2, d3, df⟩ := block_cells4 q0)))
    refine bodyPost_ret (results_cell_row_tmp rfl _ _ _ 63 #[.int .i64 0, .int .i64 0, .string ⟨#[]⟩, .bool false] (0, 0) _ rfl (set4_new q0) Try.underlying63 rfl choice_cells) rfl ?_
    exact ⟨rfl, (((b0.setCell (p := ⟨w.heap.size, 0, none⟩) (by simp) _).setCell (p := ⟨w.heap.size, 1, none⟩) (by simp) _).setCell (p := ⟨w.heap.size, 2, none⟩) (by simp) _).setCell (p := ⟨w.heap.size, 3, none⟩) (by simp) _⟩
  · have z1 : decide (seq ≤ ra) = false := decide_eq_false h1
    have h2 : 16 < seq - ra := by omega
    have z2 : decide (16 < seq - ra) = true := decide_eq_true h2
    clear hs
    go_enter Try.func25, Try.ntmps25
    go_wp2_with (first | ((with_reducible refine (MY.out _ b0).mono ?_); rintro e w1 ⟨rfl, g1⟩; (replace q0 := (g1.block _ (lt_of_block q0)).trans q0); (replace b0 := chain b0 g1)) | ((with_reducible refine (LO.out _ b0).mono ?_); rintro e w2 ⟨rfl, g2⟩; (replace q0 := (g2.block _ (lt_of_block q0)).trans q0); (replace b0 := chain b0 g2); (obtain ⟨d0, d1, d2, d3, df⟩ := block_cells4 q0)))
    refine bodyPost_ret (results_cell_row_tmp rfl _ _ _ 63 #[.int .i64 0, .int .i64 0, .string ⟨#[]⟩, .bool false] (0, 0) _ rfl (set4_new q0) Try.underlying63 rfl choice_cells) rfl ?_
    exact ⟨rfl, (((b0.setCell (p := ⟨w.heap.size, 0, none⟩) (by simp) _).setCell (p := ⟨w.heap.size, 1, none⟩) (by simp) _).setCell (p := ⟨w.heap.size, 2, none⟩) (by simp) _).setCell (p := ⟨w.heap.size, 3, none⟩) (by simp) _⟩
set_option maxHeartbeats 2000000 in
theorem atP_yes (n : Int) (l : List Cg) (v : Value) (seq : Int) (w : World) (h : RdCg w v l) (hm : MayP n l) (hq : seq ≤ 9223372036854775807) (hs : (lowZ l).1 < seq ∧ seq - (lowZ l).1 ≤ 16) :
    Calls Try.prog 25 #[v, .int .i64 n, .int .i64 seq] w fun e w' => e = .returned (.tuple #[.agg (choA seq (pickO seq (allC l))), .int .i64 0]) ∧ Below w.heap.size w w' := by
  have h0 : 0 < l.length := by have := hm.len; have := may_n hm; omega
  have hl := lowZ_in hm
  have MY := Lib.hid (fun w' (g : Below w.heap.size w w') => choMay_yes n l v w' (h.below g (Nat.le_refl _)) hm)
  have LO0 := fun w' (g : Below w.heap.size w w') => lowest_any l v w' (h.below g (Nat.le_refl _)) h0
  have AT0 := fun w' (g : Below w.heap.size w w') => at_any l v seq w' (h.below g (Nat.le_refl _))
  obtain ⟨a1, a2, a3, hc⟩ := choA_cells seq (pickO seq (allC l))
  rw [hc] at AT0 ⊢
  have AT := Lib.hid AT0
  obtain ⟨R, hR⟩ : ∃ R, R = lowZ l := ⟨_, rfl⟩
  rw [← hR] at LO0 hs hl
  obtain ⟨ra, rb⟩ := R
  simp only at LO0 hs hl
  have LO := Lib.hid LO0
  obtain ⟨hl1, hl2⟩ := hl
  have q0 := heap_alloc_new w (.cells #[.int .i64 0, .int .i64 0, .string ⟨#[]⟩, .bool false] 63)
  have b0 := (Below.refl w.heap.size w).alloc (Nat.le_refl _) (.cells #[.int .i64 0, .int .i64 0, .string ⟨#[]⟩, .bool false] 63)
  clear LO0 AT0 hR h0 h hm hc
  obtain ⟨h1, h2⟩ := hs
  have z1 : decide (seq ≤ ra) = false := decide_eq_false (by omega)
  have z2 : decide (16 < seq - ra) = false := decide_eq_false (by omega)
  go_enter Try.func25, Try.ntmps25
  go_wp2_with (first | ((with_reducible refine (MY.out _ b0).mono ?_); rintro e w1 ⟨rfl, g1⟩; (replace q0 := (g1.block _ (lt_of_block q0)).trans q0); (replace b0 := chain b0 g1)) | ((with_reducible refine (LO.out _ b0).mono ?_); rintro e w2 ⟨rfl, g2⟩; (replace q0 := (g2.block _ (lt_of_block q0)).trans q0); (replace b0 := chain b0 g2)) | ((with_reducible refine (AT.out _ b0).mono ?_); rintro e w3 ⟨rfl, g3⟩; (replace q0 := (g3.block _ (lt_of_block q0)).trans q0); (replace b0 := chain b0 g3); (obtain ⟨d0, d1, d2, d3, df⟩ := block_cells4 q0)))
  refine bodyPost_ret (results_cell_row_tmp rfl _ _ _ 63 #[.int .i64 seq, .int .i64 a1, .string a2, .bool a3] (0, 0) _ rfl (set4_new q0) Try.underlying63 rfl choice_cells) rfl ?_
  exact ⟨rfl, (((b0.setCell (p := ⟨w.heap.size, 0, none⟩) (by simp) _).setCell (p := ⟨w.heap.size, 1, none⟩) (by simp) _).setCell (p := ⟨w.heap.size, 2, none⟩) (by simp) _).setCell (p := ⟨w.heap.size, 3, none⟩) (by simp) _⟩
end Go.Proofs.Ytgmblgpfgdfnaaa
