/- Quorums: strong, weak, the document's faults, who leads. -/
import Derived.Test.YtlhdbggjablofaaDoorQ05A
namespace Go.Proofs.YtlhdbggjablofaaDoor
open Go.RowKit
set_option linter.unusedVariables false
set_option linter.unusedSimpArgs false
set_option maxRecDepth 100000 in
theorem strong_any (n : Int) (hn : -9223372036854775808 ≤ n ∧ n ≤ 9223372036854775807) (w : World) :
    Calls Tryd.prog 10 #[.int .i64 n] w fun e w' => e = .returned (.int .i64 (if fN n = 0 then 0 else 2 * fN n + 1)) ∧ w = w' := by
  have R := faults_any n hn
  have hb : 0 ≤ fN n ∧ fN n ≤ 5 := by have := fN_cases n; omega
  generalize fN n = f at R hb ⊢
  clear hn
  by_cases h : f = 0
  · subst h
    simp only [if_true] at R ⊢
    go_enter Tryd.func10, Tryd.ntmps10
    go_wp2_with fail
    refine (R _).mono ?_
    rintro e w1 ⟨rfl, rfl⟩
    go_wp2_with fail
    go_ret
    exact ⟨rfl, rfl⟩
  · simp only [if_neg h] at R ⊢
    go_enter Tryd.func10, Tryd.ntmps10
    go_wp2_with fail
    refine (R _).mono ?_
    rintro e w1 ⟨rfl, rfl⟩
    go_wp2_with fail
    go_ret
    exact ⟨rfl, rfl⟩
set_option maxRecDepth 100000 in
theorem weak_any (n : Int) (hn : -9223372036854775808 ≤ n ∧ n ≤ 9223372036854775807) (w : World) :
    Calls Tryd.prog 11 #[.int .i64 n] w fun e w' => e = .returned (.int .i64 (if fN n = 0 then 0 else fN n + 1)) ∧ w = w' := by
  have R := faults_any n hn
  have hb : 0 ≤ fN n ∧ fN n ≤ 5 := by have := fN_cases n; omega
  generalize fN n = f at R hb ⊢
  clear hn
  by_cases h : f = 0
  · subst h
    simp only [if_true] at R ⊢
    go_enter Tryd.func11, Tryd.ntmps11
    go_wp2_with fail
    refine (R _).mono ?_
    rintro e w1 ⟨rfl, rfl⟩
    go_wp2_with fail
    go_ret
    exact ⟨rfl, rfl⟩
  · simp only [if_neg h] at R ⊢
    go_enter Tryd.func11, Tryd.ntmps11
    go_wp2_with fail
    refine (R _).mono ?_
    rintro e w1 ⟨rfl, rfl⟩
    go_wp2_with fail
    go_ret
    exact ⟨rfl, rfl⟩
end Go.Proofs.YtlhdbggjablofaaDoor
