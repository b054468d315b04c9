/- Quorums: strong, weak, the document's faults, who leads. -/
import Derived.Test.YtgmblgpfgdfnaaaQMM3
namespace Go.Proofs.Ytgmblgpfgdfnaaa
open Go.RowKit
set_option linter.unusedVariables false
set_option linter.unusedSimpArgs false
set_option maxRecDepth 100000 in
theorem strong_any (n : Int) (hn : -9223372036854775808 ≤ n ∧ n ≤ 9223372036854775807) (w : World) :
    Calls Try.prog 74 #[.int .i64 n] w fun e w' => e = .returned (.int .i64 (if fN n = 0 then 0 else 2 * fN n + 1)) ∧ w = w' := by
  have R := faults_any n hn
  have hb : 0 ≤ fN n ∧ fN n ≤ 5 := by have := fN_cases n; omega
  generalize fN n = f at R hb ⊢
  clear hn
  by_cases h : f = 0
  · subst h
    simp only [if_true] at R ⊢
    go_enter Try.func74, Try.ntmps74
    go_wp2_with fail
    refine (R _).mono ?_
    rintro e w1 ⟨rfl, rfl⟩
    go_wp2_with fail
    go_ret
    exact ⟨rfl, rfl⟩
  · simp only [if_neg h] at R ⊢
    go_enter Try.func74, Try.ntmps74
    go_wp2_with fail
    refine (R _).mono ?_
    rintro e w1 ⟨rfl, rfl⟩
    go_wp2_with fail
    go_ret
    exact ⟨rfl, rfl⟩
end Go.Proofs.Ytgmblgpfgdfnaaa
