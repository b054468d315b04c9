/- Values: how any two are to one another, by the document. Written by wip/tools/gen7s.py. -/
import Derived.Test.YtcehgfganjdghaaDoorQVTC30
namespace Go.Proofs.YtcehgfganjdghaaDoor.V7
open Go Go.RowKit
set_option linter.unusedVariables false
set_option linter.unusedSimpArgs false
theorem refBool_n (b : Bool) (w : World) :
    Calls Tryd.prog 45 #[.bool b] w fun e w' => e = .returned (.agg #[.int .i64 1, .int .i64 (n01 b), .string (str [])]) ∧ Below w.heap.size w w' := by
  unfold n01
  cases b
  all_goals
    go_enter Tryd.func45, Tryd.ntmps45
    go_wp2_with fail
    refine bodyPost_ret (v := .agg #[.int .i64 1, .int .i64 _, .string (str [])]) (by simp [results, Tryd.results45, go_sem, str_e]) rfl ⟨rfl, ?_⟩
    exact ((Below.refl _ _).alloc (Nat.le_refl _) _).alloc (by simp) _
theorem is_same (k i : Int) (s : List UInt8) (x : Int) (w : World) :
    Calls Tryd.prog 46 #[.agg #[.int .i64 k, .int .i64 i, .string (str s)], .int .i64 x, .agg #[.int .i64 k, .int .i64 i, .string (str s)], .int .i64 x] w fun e w' => e = .returned (.bool true) ∧ Below w.heap.size w w' := by
  have bel : ∀ o o', Below w.heap.size w ((w.alloc o).alloc o') := fun o o' => ((Below.refl _ _).alloc (Nat.le_refl _) o).alloc (by simp) o'
  have BEL := Lib.hid bel
  clear bel
  go_enter Tryd.func46, Tryd.ntmps46
  go_wp2_with fail
  all_goals
    go_ret
    exact ⟨rfl, BEL.out _ _⟩
theorem cmpV_form (op : Int) (a b : V) : ∃ k i e : Int, cmpV op a b = .tuple #[.agg #[.int .i64 k, .int .i64 i, .string (str [])], .int .i64 e] := by
  unfold cmpV
  split
  · exact ⟨_, _, _, rfl⟩
  · split
    · exact ⟨_, _, _, rfl⟩
    · split
      · exact ⟨_, _, _, rfl⟩
      · split
        · exact ⟨_, _, _, rfl⟩
        · exact ⟨_, _, _, rfl⟩
end Go.Proofs.YtcehgfganjdghaaDoor.V7
