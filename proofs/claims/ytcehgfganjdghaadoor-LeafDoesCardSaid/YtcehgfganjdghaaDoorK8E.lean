/- Keys: the calls that ask one thing behind the other. Written by wip/tools/gen8e.py. -/
import Derived.Test.YtcehgfganjdghaaDoorJoined1
namespace Go.Proofs.YtcehgfganjdghaaDoor
open Go Go.RowKit
set_option linter.unusedVariables false
set_option linter.unusedSimpArgs false
set_option maxRecDepth 100000
theorem geq_str (a b : List UInt8) (w : World) : (binOp .geq 9 (.string (str a)) (.string (str b))).run Tryd.prog w = .ok (.bool !ltB a b) w := by
  rw [← less_str]
  simp [binOp, Op.stringOp, go_sem]
theorem pattern_g (l : List UInt8) (E b : Bool) (H1 : Ret 81 #[.string (str l)] (.bool b)) (fE : (str l).toList.isEmpty = E)  : Ret 86 #[.string (str l)] (.bool (E || b)) := by
  intro w tab
  have bel := Below.refl w.heap.size w
  cases E with
  | false =>
    cases b with
    | false =>
      go_enter Tryd.func86, Tryd.ntmps86
      go_wp2_with (first | ((with_reducible refine (H1.at _ tab).mono ?_); rintro e w' ⟨rfl, g⟩; have tab := tab.below g; have bel := chain bel g; clear g))
      go_ret
      exact ⟨rfl, bel⟩
    | true =>
      go_enter Tryd.func86, Tryd.ntmps86
      go_wp2_with (first | ((with_reducible refine (H1.at _ tab).mono ?_); rintro e w' ⟨rfl, g⟩; have tab := tab.below g; have bel := chain bel g; clear g))
      go_ret
      exact ⟨rfl, bel⟩
  | true =>
    go_enter Tryd.func86, Tryd.ntmps86
    go_wp2_with (first | ((with_reducible refine (H1.at _ tab).mono ?_); rintro e w' ⟨rfl, g⟩; have tab := tab.below g; have bel := chain bel g; clear g))
    go_ret
    exact ⟨rfl, bel⟩
theorem refIs_g (l : List UInt8) (hz : 0 < (str l).size) (hm : (str l).size ≤ 9223372036854775807) (b : Bool) (H1 : Ret 85 #[.string (str l)] (.bool b))   : Ret 57 #[.string (str l)] (.bool b) := by
  intro w tab
  have bel := Below.refl w.heap.size w
  cases b with
  | false =>
    go_enter Tryd.func57, Tryd.ntmps57
    go_wp2_with (first | ((with_reducible refine (H1.at _ tab).mono ?_); rintro e w' ⟨rfl, g⟩; have tab := tab.below g; have bel := chain bel g; clear g))
    go_ret
    exact ⟨rfl, bel⟩
  | true =>
    go_enter Tryd.func57, Tryd.ntmps57
    go_wp2_with (first | ((with_reducible refine (H1.at _ tab).mono ?_); rintro e w' ⟨rfl, g⟩; have tab := tab.below g; have bel := chain bel g; clear g))
    go_ret
    exact ⟨rfl, bel⟩
theorem in_g (k f t : List UInt8) (b1 b2 b3 L b4 : Bool) (H1 : Ret 81 #[.string (str k)] (.bool b1)) (H2 : Ret 86 #[.string (str f)] (.bool b2)) (H3 : Ret 86 #[.string (str t)] (.bool b3)) (H4 : Ret 87 #[.string (str k), .string (str t)] (.bool b4)) (fL : ∀ w, (binOp .geq 9 (.string (str k)) (.string (str f))).run Tryd.prog w = .ok (.bool !L) w)  : Ret 58 #[.string (str k), .string (str f), .string (str t)] (.bool (b1 && b2 && b3 && !L && b4)) := by
  intro w tab
  have bel := Below.refl w.heap.size w
  cases b1 with
  | false =>
    go_enter Tryd.func58, Tryd.ntmps58
    go_wp2_with (first | ((with_reducible refine (H1.at _ tab).mono ?_); rintro e w' ⟨rfl, g⟩; have tab := tab.below g; have bel := chain bel g; clear g) | ((with_reducible refine (H2.at _ tab).mono ?_); rintro e w' ⟨rfl, g⟩; have tab := tab.below g; have bel := chain bel g; clear g) | ((with_reducible refine (H3.at _ tab).mono ?_); rintro e w' ⟨rfl, g⟩; have tab := tab.below g; have bel := chain bel g; clear g) | ((with_reducible refine (H4.at _ tab).mono ?_); rintro e w' ⟨rfl, g⟩; have tab := tab.below g; have bel := chain bel g; clear g))
    go_ret
    exact ⟨rfl, bel⟩
  | true =>
    cases b2 with
    | false =>
      go_enter Tryd.func58, Tryd.ntmps58
      go_wp2_with (first | ((with_reducible refine (H1.at _ tab).mono ?_); rintro e w' ⟨rfl, g⟩; have tab := tab.below g; have bel := chain bel g; clear g) | ((with_reducible refine (H2.at _ tab).mono ?_); rintro e w' ⟨rfl, g⟩; have tab := tab.below g; have bel := chain bel g; clear g) | ((with_reducible refine (H3.at _ tab).mono ?_); rintro e w' ⟨rfl, g⟩; have tab := tab.below g; have bel := chain bel g; clear g) | ((with_reducible refine (H4.at _ tab).mono ?_); rintro e w' ⟨rfl, g⟩; have tab := tab.below g; have bel := chain bel g; clear g))
      go_ret
      exact ⟨rfl, bel⟩
    | true =>
      cases b3 with
      | false =>
        go_enter Tryd.func58, Tryd.ntmps58
        go_wp2_with (first | ((with_reducible refine (H1.at _ tab).mono ?_); rintro e w' ⟨rfl, g⟩; have tab := tab.below g; have bel := chain bel g; clear g) | ((with_reducible refine (H2.at _ tab).mono ?_); rintro e w' ⟨rfl, g⟩; have tab := tab.below g; have bel := chain bel g; clear g) | ((with_reducible refine (H3.at _ tab).mono ?_); rintro e w' ⟨rfl, g⟩; have tab := tab.below g; have bel := chain bel g; clear g) | ((with_reducible refine (H4.at _ tab).mono ?_); rintro e w' ⟨rfl, g⟩; have tab := tab.below g; have bel := chain bel g; clear g))
        go_ret
        exact ⟨rfl, bel⟩
      | true =>
        cases L with
        | false =>
          cases b4 with
          | false =>
            go_enter Tryd.func58, Tryd.ntmps58
            go_wp2_with (first | ((with_reducible refine (H1.at _ tab).mono ?_); rintro e w' ⟨rfl, g⟩; have tab := tab.below g; have bel := chain bel g; clear g) | ((with_reducible refine (H2.at _ tab).mono ?_); rintro e w' ⟨rfl, g⟩; have tab := tab.below g; have bel := chain bel g; clear g) | ((with_reducible refine (H3.at _ tab).mono ?_); rintro e w' ⟨rfl, g⟩; have tab := tab.below g; have bel := chain bel g; clear g) | ((with_reducible refine (H4.at _ tab).mono ?_); rintro e w' ⟨rfl, g⟩; have tab := tab.below g; have bel := chain bel g; clear g))
            go_ret
            exact ⟨rfl, bel⟩
          | true =>
            go_enter Tryd.func58, Tryd.ntmps58
            go_wp2_with (first | ((with_reducible refine (H1.at _ tab).mono ?_); rintro e w' ⟨rfl, g⟩; have tab := tab.below g; have bel := chain bel g; clear g) | ((with_reducible refine (H2.at _ tab).mono ?_); rintro e w' ⟨rfl, g⟩; have tab := tab.below g; have bel := chain bel g; clear g) | ((with_reducible refine (H3.at _ tab).mono ?_); rintro e w' ⟨rfl, g⟩; have tab := tab.below g; have bel := chain bel g; clear g) | ((with_reducible refine (H4.at _ tab).mono ?_); rintro e w' ⟨rfl, g⟩; have tab := tab.below g; have bel := chain bel g; clear g))
            go_ret
            exact ⟨rfl, bel⟩
        | true =>
          go_enter Tryd.func58, Tryd.ntmps58
          go_wp2_with (first | ((with_reducible refine (H1.at _ tab).mono ?_); rintro e w' ⟨rfl, g⟩; have tab := tab.below g; have bel := chain bel g; clear g) | ((with_reducible refine (H2.at _ tab).mono ?_); rintro e w' ⟨rfl, g⟩; have tab := tab.below g; have bel := chain bel g; clear g) | ((with_reducible refine (H3.at _ tab).mono ?_); rintro e w' ⟨rfl, g⟩; have tab := tab.below g; have bel := chain bel g; clear g) | ((with_reducible refine (H4.at _ tab).mono ?_); rintro e w' ⟨rfl, g⟩; have tab := tab.below g; have bel := chain bel g; clear g))
          go_ret
          exact ⟨rfl, bel⟩
theorem refIn_g (k f t : List UInt8) (b1 b2 b3 L E M : Bool) (H1 : Ret 57 #[.string (str k)] (.bool b1)) (H2 : Ret 85 #[.string (str f)] (.bool b2)) (H3 : Ret 85 #[.string (str t)] (.bool b3)) (H4 : Ret 48 #[.string (str k), .string (str f)] (.bool L)) (H5 : Ret 48 #[.string (str k), .string (str t)] (.bool M)) (fE : (str t).toList.isEmpty = E)  : Ret 59 #[.string (str k), .string (str f), .string (str t)] (.bool (b1 && b2 && b3 && !L && (E || M))) := by
  intro w tab
  have bel := Below.refl w.heap.size w
  cases b1 with
  | false =>
    go_enter Tryd.func59, Tryd.ntmps59
    go_wp2_with (first | ((with_reducible refine (H1.at _ tab).mono ?_); rintro e w' ⟨rfl, g⟩; have tab := tab.below g; have bel := chain bel g; clear g) | ((with_reducible refine (H2.at _ tab).mono ?_); rintro e w' ⟨rfl, g⟩; have tab := tab.below g; have bel := chain bel g; clear g) | ((with_reducible refine (H3.at _ tab).mono ?_); rintro e w' ⟨rfl, g⟩; have tab := tab.below g; have bel := chain bel g; clear g) | ((with_reducible refine (H4.at _ tab).mono ?_); rintro e w' ⟨rfl, g⟩; have tab := tab.below g; have bel := chain bel g; clear g) | ((with_reducible refine (H5.at _ tab).mono ?_); rintro e w' ⟨rfl, g⟩; have tab := tab.below g; have bel := chain bel g; clear g))
    go_ret
    exact ⟨rfl, bel⟩
  | true =>
    cases b2 with
    | false =>
      go_enter Tryd.func59, Tryd.ntmps59
      go_wp2_with (first | ((with_reducible refine (H1.at _ tab).mono ?_); rintro e w' ⟨rfl, g⟩; have tab := tab.below g; have bel := chain bel g; clear g) | ((with_reducible refine (H2.at _ tab).mono ?_); rintro e w' ⟨rfl, g⟩; have tab := tab.below g; have bel := chain bel g; clear g) | ((with_reducible refine (H3.at _ tab).mono ?_); rintro e w' ⟨rfl, g⟩; have tab := tab.below g; have bel := chain bel g; clear g) | ((with_reducible refine (H4.at _ tab).mono ?_); rintro e w' ⟨rfl, g⟩; have tab := tab.below g; have bel := chain bel g; clear g) | ((with_reducible refine (H5.at _ tab).mono ?_); rintro e w' ⟨rfl, g⟩; have tab := tab.below g; have bel := chain bel g; clear g))
      go_ret
      exact ⟨rfl, bel⟩
    | true =>
      cases b3 with
      | false =>
        go_enter Tryd.func59, Tryd.ntmps59
        go_wp2_with (first | ((with_reducible refine (H1.at _ tab).mono ?_); rintro e w' ⟨rfl, g⟩; have tab := tab.below g; have bel := chain bel g; clear g) | ((with_reducible refine (H2.at _ tab).mono ?_); rintro e w' ⟨rfl, g⟩; have tab := tab.below g; have bel := chain bel g; clear g) | ((with_reducible refine (H3.at _ tab).mono ?_); rintro e w' ⟨rfl, g⟩; have tab := tab.below g; have bel := chain bel g; clear g) | ((with_reducible refine (H4.at _ tab).mono ?_); rintro e w' ⟨rfl, g⟩; have tab := tab.below g; have bel := chain bel g; clear g) | ((with_reducible refine (H5.at _ tab).mono ?_); rintro e w' ⟨rfl, g⟩; have tab := tab.below g; have bel := chain bel g; clear g))
        go_ret
        exact ⟨rfl, bel⟩
      | true =>
        cases L with
        | false =>
          cases E with
          | false =>
            cases M with
            | false =>
              go_enter Tryd.func59, Tryd.ntmps59
              go_wp2_with (first | ((with_reducible refine (H1.at _ tab).mono ?_); rintro e w' ⟨rfl, g⟩; have tab := tab.below g; have bel := chain bel g; clear g) | ((with_reducible refine (H2.at _ tab).mono ?_); rintro e w' ⟨rfl, g⟩; have tab := tab.below g; have bel := chain bel g; clear g) | ((with_reducible refine (H3.at _ tab).mono ?_); rintro e w' ⟨rfl, g⟩; have tab := tab.below g; have bel := chain bel g; clear g) | ((with_reducible refine (H4.at _ tab).mono ?_); rintro e w' ⟨rfl, g⟩; have tab := tab.below g; have bel := chain bel g; clear g) | ((with_reducible refine (H5.at _ tab).mono ?_); rintro e w' ⟨rfl, g⟩; have tab := tab.below g; have bel := chain bel g; clear g))
              go_ret
              exact ⟨rfl, bel⟩
            | true =>
              go_enter Tryd.func59, Tryd.ntmps59
              go_wp2_with (first | ((with_reducible refine (H1.at _ tab).mono ?_); rintro e w' ⟨rfl, g⟩; have tab := tab.below g; have bel := chain bel g; clear g) | ((with_reducible refine (H2.at _ tab).mono ?_); rintro e w' ⟨rfl, g⟩; have tab := tab.below g; have bel := chain bel g; clear g) | ((with_reducible refine (H3.at _ tab).mono ?_); rintro e w' ⟨rfl, g⟩; have tab := tab.below g; have bel := chain bel g; clear g) | ((with_reducible refine (H4.at _ tab).mono ?_); rintro e w' ⟨rfl, g⟩; have tab := tab.below g; have bel := chain bel g; clear g) | ((with_reducible refine (H5.at _ tab).mono ?_); rintro e w' ⟨rfl, g⟩; have tab := tab.below g; have bel := chain bel g; clear g))
              go_ret
              exact ⟨rfl, bel⟩
          | true =>
            go_enter Tryd.func59, Tryd.ntmps59
            go_wp2_with (first | ((with_reducible refine (H1.at _ tab).mono ?_); rintro e w' ⟨rfl, g⟩; have tab := tab.below g; have bel := chain bel g; clear g) | ((with_reducible refine (H2.at _ tab).mono ?_); rintro e w' ⟨rfl, g⟩; have tab := tab.below g; have bel := chain bel g; clear g) | ((with_reducible refine (H3.at _ tab).mono ?_); rintro e w' ⟨rfl, g⟩; have tab := tab.below g; have bel := chain bel g; clear g) | ((with_reducible refine (H4.at _ tab).mono ?_); rintro e w' ⟨rfl, g⟩; have tab := tab.below g; have bel := chain bel g; clear g) | ((with_reducible refine (H5.at _ tab).mono ?_); rintro e w' ⟨rfl, g⟩; have tab := tab.below g; have bel := chain bel g; clear g))
            go_ret
            exact ⟨rfl, bel⟩
        | true =>
          go_enter Tryd.func59, Tryd.ntmps59
          go_wp2_with (first | ((with_reducible refine (H1.at _ tab).mono ?_); rintro e w' ⟨rfl, g⟩; have tab := tab.below g; have bel := chain bel g; clear g) | ((with_reducible refine (H2.at _ tab).mono ?_); rintro e w' ⟨rfl, g⟩; have tab := tab.below g; have bel := chain bel g; clear g) | ((with_reducible refine (H3.at _ tab).mono ?_); rintro e w' ⟨rfl, g⟩; have tab := tab.below g; have bel := chain bel g; clear g) | ((with_reducible refine (H4.at _ tab).mono ?_); rintro e w' ⟨rfl, g⟩; have tab := tab.below g; have bel := chain bel g; clear g) | ((with_reducible refine (H5.at _ tab).mono ?_); rintro e w' ⟨rfl, g⟩; have tab := tab.below g; have bel := chain bel g; clear g))
          go_ret
          exact ⟨rfl, bel⟩
end Go.Proofs.YtcehgfganjdghaaDoor
