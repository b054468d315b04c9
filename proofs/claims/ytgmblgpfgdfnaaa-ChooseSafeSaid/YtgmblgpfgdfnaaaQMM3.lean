/- Quorums: how many replicas, faults, strong and weak; who leads. -/
import Derived.Test.YtgmblgpfgdfnaaaQMM2
import Derived.Test.YtgmblgpfgdfnaaaProg
import Derived.WalkKit
namespace Go.Proofs.Ytgmblgpfgdfnaaa
open Go.RowKit
set_option linter.unusedVariables false
set_option linter.unusedSimpArgs false
/-- How many faults so many replicas bear; 0: they are no such number. -/
def fN (n : Int) : Int := if n = 4 then 1 else if n = 7 then 2 else if n = 10 then 3 else if n = 13 then 4 else if n = 16 then 5 else 0
set_option maxRecDepth 100000 in
theorem replicas_yes (f : Int) (h1 : 1 ≤ f) (h2 : f ≤ 5) (w : World) :
    Calls Try.prog 48 #[.int .i64 f] w fun e w' => e = .returned (.tuple #[.int .i64 (3 * f + 1), .int .i64 0]) ∧ w = w' := by
  go_enter Try.func48, Try.ntmps48
  go_wp2
  go_ret2
  exact ⟨rfl, rfl⟩
set_option maxRecDepth 100000 in
theorem replicas_no (f : Int) (h : f < 1 ∨ 5 < f) (w : World) :
    Calls Try.prog 48 #[.int .i64 f] w fun e w' => e = .returned (.tuple #[.int .i64 0, .int .i64 1]) ∧ w = w' := by
  rcases (show f < 1 ∨ (1 ≤ f ∧ 5 < f) by omega) with h | ⟨h, h2⟩
  all_goals
    go_enter Try.func48, Try.ntmps48
    go_wp2
    go_ret2
    exact ⟨rfl, rfl⟩
theorem fN_cases (n : Int) : (n = 4 ∧ fN n = 1) ∨ (n = 7 ∧ fN n = 2) ∨ (n = 10 ∧ fN n = 3) ∨ (n = 13 ∧ fN n = 4) ∨ (n = 16 ∧ fN n = 5) ∨ (fN n = 0 ∧ n ≠ 4 ∧ n ≠ 7 ∧ n ≠ 10 ∧ n ≠ 13 ∧ n ≠ 16) := by
  unfold fN
  repeat' split
  all_goals omega
theorem fN_yes (n q : Int) (hr : 1 ≤ q ∧ q ≤ 5) (he : 3 * q + 1 = n) : fN n = q := by
  have h5 : q = 1 ∨ q = 2 ∨ q = 3 ∨ q = 4 ∨ q = 5 := by omega
  rcases h5 with rfl | rfl | rfl | rfl | rfl <;> (subst he; decide)
theorem fN_no (n q : Int) (hq : n.tdiv 3 = q) (h : ¬ (1 ≤ q ∧ q ≤ 5) ∨ ¬ 3 * q + 1 = n) : fN n = 0 := by
  rcases fN_cases n with ⟨rfl, _⟩ | ⟨rfl, _⟩ | ⟨rfl, _⟩ | ⟨rfl, _⟩ | ⟨rfl, _⟩ | ⟨h0, _⟩
  case inr.inr.inr.inr.inr => exact h0
  all_goals
    have e : q = _ := hq.symm
    simp at e
    omega
theorem tdiv3 (n : Int) : 3 * n.tdiv 3 - 2 ≤ n ∧ n ≤ 3 * n.tdiv 3 + 2 := by
  by_cases h : 0 ≤ n
  · rw [Int.tdiv_eq_ediv_of_nonneg h]; omega
  · have e : n.tdiv 3 = -((-n) / 3) := by
      rw [← Int.tdiv_eq_ediv_of_nonneg (by omega : 0 ≤ -n), Int.neg_tdiv, Int.neg_neg]
    rw [e]; omega
set_option maxRecDepth 100000 in
theorem faults_any (n : Int) (hn : -9223372036854775808 ≤ n ∧ n ≤ 9223372036854775807) (w : World) :
    Calls Try.prog 33 #[.int .i64 n] w fun e w' => e = .returned (.tuple #[.int .i64 (fN n), .int .i64 (if fN n = 0 then 1 else 0)]) ∧ w = w' := by
  obtain ⟨q, hq⟩ : ∃ q, n.tdiv 3 = q := ⟨_, rfl⟩
  have hw : wrap64 q = q := by
    have := tdiv3 n
    rw [hq] at this
    simp [wrap64]; omega
  clear hn
  by_cases hr : 1 ≤ q ∧ q ≤ 5
  · have R := replicas_yes q hr.1 hr.2
    by_cases he : 3 * q + 1 = n
    · rw [fN_yes n q hr he, if_neg (show ¬ q = 0 by omega)]
      rw [he] at R
      clear hr he
      go_enter Try.func33, Try.ntmps33
      go_wp2_with fail
      refine (R _).mono ?_
      rintro e w1 ⟨rfl, rfl⟩
      clear hq R
      go_wp2_with fail
      go_ret2
      exact ⟨rfl, rfl⟩
    · rw [fN_no n q hq (.inr he), if_pos rfl]
      clear hr
      go_enter Try.func33, Try.ntmps33
      go_wp2_with fail
      refine (R _).mono ?_
      rintro e w1 ⟨rfl, rfl⟩
      clear hq R
      go_wp2_with fail
      go_ret2
      exact ⟨rfl, rfl⟩
  · have R := replicas_no q (by omega)
    rw [fN_no n q hq (.inl hr), if_pos rfl]
    clear hr
    go_enter Try.func33, Try.ntmps33
    go_wp2_with fail
    refine (R _).mono ?_
    rintro e w1 ⟨rfl, rfl⟩
    clear hq R
    go_wp2_with fail
    go_ret2
    exact ⟨rfl, rfl⟩
end Go.Proofs.Ytgmblgpfgdfnaaa
