/- Values: how two are to one another, by the document. -/
import Derived.Test.YthakimgpaemfeaaV07J
import Derived.Test.YthakimgpaemfeaaV07C
namespace Go.Proofs.Ythakimgpaemfeaa
open Go Go.RowKit
set_option linter.unusedVariables false
set_option linter.unusedSimpArgs false
theorem less_cmp : ∀ a b : List UInt8, Op.bytesLess a b = decide (Lib.compareBytes a b < 0)
  | [], [] => by simp [Op.bytesLess, Lib.compareBytes]
  | [], _ :: _ => by simp [Op.bytesLess, Lib.compareBytes]
  | _ :: _, [] => by simp [Op.bytesLess, Lib.compareBytes]
  | a :: x, b :: y => by
    have ih := less_cmp x y
    unfold Op.bytesLess Lib.compareBytes
    by_cases h : a < b
    · simp [h]
    · by_cases h2 : b < a
      · have ne : (a == b) = false := by
          rw [beq_eq_false_iff_ne]
          rintro rfl
          exact h h2
        simp [h, h2, ne]
      · have e : a = b := UInt8.le_antisymm (UInt8.not_lt.1 h2) (UInt8.not_lt.1 h)
        subst e
        simp [h, ih]
theorem ret_int {a b : Int} (h : a = b) : Ending.returned (.int .i64 a) = Ending.returned (.int .i64 b) := by rw [h]
set_option maxRecDepth 100000 in
set_option maxHeartbeats 800000 in
theorem refOrder_any (k i : Int) (s : List UInt8) (k' i' : Int) (s' : List UInt8) (w : World) :
    Calls Try.prog 12 #[.agg #[.int .i64 k, .int .i64 i, .string (str s)], .agg #[.int .i64 k', .int .i64 i', .string (str s')]] w fun e w' => e = .returned (.int .i64 (ordV ⟨k, i, s⟩ ⟨k', i', s'⟩)) ∧ Below w.heap.size w w' := by
  have bel : ∀ o o', Below w.heap.size w ((w.alloc o).alloc o') := fun o o' => ((Below.refl _ _).alloc (Nat.le_refl _) o).alloc (by simp) o'
  have BEL := Lib.hid bel
  clear bel
  obtain ⟨o, ho⟩ : ∃ o, o = ordV ⟨k, i, s⟩ ⟨k', i', s'⟩ := ⟨_, rfl⟩
  have z := ordV_zero ⟨k, i, s⟩ ⟨k', i', s'⟩
  have r := ordV_range ⟨k, i, s⟩ ⟨k', i', s'⟩
  rw [← ho] at z r ⊢
  unfold ordV sgn3 at ho
  simp only at ho
  have lc := less_cmp (str s).toList (str s').toList
  have tl := str_tl s
  have tl' := str_tl s'
  rcases (show k < k' ∨ k' < k ∨ k = k' by omega) with h | h | rfl
  · have HO := Lib.hid (show o = -1 by rw [ho, if_pos h]; simp)
    clear z r ho lc
    have h1 : ¬ k = k' := by omega
    go_enter Try.func12, Try.ntmps12
    go_wp2_with fail
    all_goals
      go_ret
      exact ⟨ret_int HO.out.symm, BEL.out _ _⟩
  · have HO := Lib.hid (show o = 1 by rw [ho, if_neg (show ¬ k < k' by omega), if_pos h]; simp)
    clear z r ho lc
    have h1 : ¬ k = k' := by omega
    have h2 : ¬ k < k' := by omega
    go_enter Try.func12, Try.ntmps12
    go_wp2_with fail
    all_goals
      go_ret
      exact ⟨ret_int HO.out.symm, BEL.out _ _⟩
  have kk : ¬ k < k := by omega
  rw [if_neg kk, if_neg kk] at ho
  simp only [ne_eq, not_true_eq_false, if_false] at ho
  rcases (show i < i' ∨ i' < i ∨ i = i' by omega) with h | h | rfl
  · have HO := Lib.hid (show o = -1 by rw [ho, if_pos h]; simp)
    clear z r ho lc
    have h1 : ¬ i = i' := by omega
    go_enter Try.func12, Try.ntmps12
    go_wp2_with fail
    all_goals
      go_ret
      exact ⟨ret_int HO.out.symm, BEL.out _ _⟩
  · have HO := Lib.hid (show o = 1 by rw [ho, if_neg (show ¬ i < i' by omega), if_pos h]; simp)
    clear z r ho lc
    have h1 : ¬ i = i' := by omega
    have h2 : ¬ i < i' := by omega
    go_enter Try.func12, Try.ntmps12
    go_wp2_with fail
    all_goals
      go_ret
      exact ⟨ret_int HO.out.symm, BEL.out _ _⟩
  have ii : ¬ i < i := by omega
  rw [if_neg ii, if_neg ii] at ho
  simp only [ne_eq, not_true_eq_false, if_false] at ho
  by_cases e : s = s'
  · subst e
    have HO := Lib.hid (show o = 0 from z.2 rfl)
    clear z r ho lc
    go_enter Try.func12, Try.ntmps12
    go_wp2_with fail
    all_goals
      go_ret
      exact ⟨ret_int HO.out.symm, BEL.out _ _⟩
  · have ne : ¬ (str s).toList = (str s').toList := by rw [tl, tl']; exact e
    have zn : ¬ o = 0 := fun h => e (by have := z.1 h; injection this)
    rw [tl, tl', ← ho] at lc
    by_cases hl : o < 0
    · rw [show decide (o < 0) = true by simpa using hl] at lc
      have HO := Lib.hid (show o = -1 by omega)
      clear z r ho hl zn
      have lc' : Op.bytesLess (str s).toList (str s').toList = true := by rw [tl, tl']; exact lc
      clear lc tl tl'
      go_enter Try.func12, Try.ntmps12
      go_wp2_with fail
      all_goals
        go_ret
        exact ⟨ret_int HO.out.symm, BEL.out _ _⟩
    · rw [show decide (o < 0) = false by simpa using hl] at lc
      have HO := Lib.hid (show o = 1 by omega)
      clear z r ho hl zn
      have lc' : Op.bytesLess (str s).toList (str s').toList = false := by rw [tl, tl']; exact lc
      clear lc tl tl'
      go_enter Try.func12, Try.ntmps12
      go_wp2_with fail
      all_goals
        go_ret
        exact ⟨ret_int HO.out.symm, BEL.out _ _⟩
end Go.Proofs.Ythakimgpaemfeaa
