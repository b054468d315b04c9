/- The document's May and Left, as this program has them in its judge's words. -/
import Derived.Test.YtfodafabkmepbaaK06e
namespace Go.Proofs.Ytfodafabkmepbaa
open Go.RowKit
set_option linter.unusedVariables false
set_option linter.unusedSimpArgs false
set_option maxRecDepth 100000 in
set_option maxHeartbeats 1000000 in
theorem rleft_any (c : Ck) (hm : MayP c) (w : World) : Calls Try.prog 10 #[ckV c] w fun e w' => e = .returned (.int .i64 (leftC c)) ∧ Below w.heap.size w w' := by
  have hl : leftC c = if c.on then c.due - c.now else 0 := by unfold leftC; rw [mayC_true hm]; simp
  have HL := Lib.hid hl
  obtain ⟨n, wt, b, cp, o, d⟩ := c
  unfold MayP at hm
  simp only [] at hm
  obtain ⟨m1, m2, m3, m4, m5, m6, m7, m8⟩ := hm
  clear hl
  unfold ckV
  cases o
  · clear m7 m8
    go_enter Try.func10, Try.ntmps10
    go_wp2
    go_ret
    rw [HL.out]
    exact ⟨rfl, by go_grown⟩
  · obtain ⟨q1, q2⟩ := m7 rfl
    clear m8 m7
    go_enter Try.func10, Try.ntmps10
    go_wp2
    try go_region
    all_goals
      try go_wp2
      go_ret
      rw [HL.out]
      exact ⟨rfl, by go_grown⟩
set_option maxRecDepth 100000 in
set_option maxHeartbeats 1000000 in
theorem rmay_any (c : Ck) (hd : I64 c.due) (w : World) : Calls Try.prog 9 #[ckV c] w fun e w' => e = .returned (.bool (mayC c)) ∧ Below w.heap.size w w' := by
  obtain ⟨n, wt, b, cp, o, d⟩ := c
  unfold I64 at hd
  simp only [] at hd
  obtain ⟨d1, d2⟩ := hd
  unfold ckV
  cases o
  all_goals
    go_enter Try.func9, Try.ntmps9
    go_wp2
  all_goals
    go_ret
    refine ⟨ret_bool ?_, by go_grown⟩
    try unfold wrap64 at *
    go_light
    try simp only [Bool.not_eq_true', Bool.not_eq_false', decide_eq_true_eq, decide_eq_false_iff_not] at *
    first
      | (refine (mayC_false ?_).symm; unfold MayP; simp; omega)
      | (refine (mayC_true ?_).symm; unfold MayP; simp; omega)
      | (rw [Bool.eq_iff_iff]; unfold mayC MayP; simp; omega)
end Go.Proofs.Ytfodafabkmepbaa
