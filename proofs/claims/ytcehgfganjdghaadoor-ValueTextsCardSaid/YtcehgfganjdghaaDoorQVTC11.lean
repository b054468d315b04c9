/- Values: the program's sums, differences, products and quotients of two numbers. -/
import Derived.Test.YtcehgfganjdghaaDoorQVTC10
import Derived.Deep.QuietTactic
import Derived.BigQuiet
namespace Go.Proofs.YtcehgfganjdghaaDoor.V7
open Go.RowKit
set_option linter.unusedVariables false
set_option linter.unusedSimpArgs false
def overE (n : Int) : Int := if fits n then 0 else 8
theorem overE_of {b : Bool} {n : Int} (h : b = !decide (fits n)) : (if b then (8 : Int) else 0) = overE n := by
  unfold overE
  by_cases hf : fits n
  · simp [hf] at h; simp [hf, h]
  · simp [hf] at h; simp [hf, h]
set_option maxRecDepth 100000 in
theorem addF_any (x y : Int) (hx : fits x) (hy : fits y) (w : World) :
    Calls Tryd.prog 97 #[.int .i64 x, .int .i64 y] w fun e w' => e = .returned (.tuple #[.int .i64 (wrap64 (x + y)), .int .i64 (overE (x + y))]) ∧ w = w' := by
  have S := sum_over x y hx hy
  have O := fun b => over_any b
  rcases (show 0 < y ∨ y = 0 ∨ y < 0 by omega) with hz | rfl | hz
  · cases hA : decide (x < wrap64 (x + y))
    all_goals
      rw [hA, show decide (0 < y) = true by simpa using hz, show (y != 0) = true by simp; omega] at S
      rw [← overE_of S]
      clear S hx hy
      go_enter Tryd.func97, Tryd.ntmps97
      go_wp2_with fail
      refine (O _ _).mono ?_
      rintro e w1 ⟨rfl, rfl⟩
      go_wp2_with fail
      go_ret2
      exact ⟨rfl, rfl⟩
  · have e1 : wrap64 (x + 0) = x := by rw [Int.add_zero]; exact wrap64_of hx
    have e2 : overE (x + 0) = 0 := by unfold overE; rw [Int.add_zero, if_pos hx]
    rw [e1, e2]
    unfold fits at hx
    obtain ⟨l1, l2⟩ := hx
    clear S e1 e2 hy
    go_enter Tryd.func97, Tryd.ntmps97
    go_wp2_with fail
    refine (O _ _).mono ?_
    rintro e w1 ⟨rfl, rfl⟩
    go_wp2_with fail
    go_ret2
    exact ⟨rfl, rfl⟩
  · cases hA : decide (x < wrap64 (x + y))
    all_goals
      rw [hA, show decide (0 < y) = false by simp; omega, show (y != 0) = true by simp; omega] at S
      rw [← overE_of S]
      clear S hx hy
      go_enter Tryd.func97, Tryd.ntmps97
      go_wp2_with fail
      refine (O _ _).mono ?_
      rintro e w1 ⟨rfl, rfl⟩
      go_wp2_with fail
      go_ret2
      exact ⟨rfl, rfl⟩
end Go.Proofs.YtcehgfganjdghaaDoor.V7
