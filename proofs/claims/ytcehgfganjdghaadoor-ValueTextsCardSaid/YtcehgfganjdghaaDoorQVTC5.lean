/- Values: what may be; the small ones. -/
import Derived.Test.YtcehgfganjdghaaDoorQVTC1
import Derived.Test.YtcehgfganjdghaaDoorQVTC4
import Derived.Test.YtcehgfganjdghaaDoorProg
import Derived.WalkKit
import Derived.WalkSpells
namespace Go.Proofs.YtcehgfganjdghaaDoor.V7
open Go.RowKit
set_option linter.unusedVariables false
set_option linter.unusedSimpArgs false
theorem str_tl (l : List UInt8) : (str l).toList = l := by unfold str; simp
theorem ret_bool {a b : Bool} (h : a = b) : Ending.returned (.bool a) = Ending.returned (.bool b) := by rw [h]
set_option maxRecDepth 100000 in
theorem may_any (k i : Int) (s : List UInt8) (w : World) (hs : s.length ≤ maxLen) :
    Calls Tryd.prog 72 #[.agg #[.int .i64 k, .int .i64 i, .string (str s)]] w fun e w' => e = .returned (.bool (mayB ⟨k, i, s⟩)) ∧ Below w.heap.size w w' := by
  unfold maxLen at hs
  have bel : ∀ o, Below w.heap.size w (w.alloc o) := fun o => (Below.refl _ _).alloc (Nat.le_refl _) o
  have BEL := Lib.hid bel
  clear bel
  have hz : (str s).size = s.length := str_size s
  go_enter Tryd.func72, Tryd.ntmps72
  go_wp2_with fail
  all_goals
    go_ret
    refine ⟨ret_bool ?_, BEL.out _⟩
    clear BEL hz
    rw [Bool.eq_iff_iff]
    simp only [mayB, str_tl, decide_eq_true_eq, List.isEmpty_iff]
    simp only [bne_iff_ne, beq_iff_eq, bne_eq_false_iff_eq, beq_eq_false_iff_ne, ne_eq, Bool.false_eq_true, false_iff, not_or, not_and] at *
    first | omega | (simp_all; done) | (simp_all; omega)
end Go.Proofs.YtcehgfganjdghaaDoor.V7
