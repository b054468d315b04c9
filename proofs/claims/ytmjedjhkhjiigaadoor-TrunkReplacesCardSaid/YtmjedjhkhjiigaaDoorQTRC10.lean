/- Keys: the calls that ask one thing behind the other. Written by wip/tools/gen8e.py. -/
import Derived.Test.YtmjedjhkhjiigaaDoorQTRC9
namespace Go.Proofs.YtmjedjhkhjiigaaDoor
open Go Go.RowKit
set_option linter.unusedVariables false
set_option linter.unusedSimpArgs false
set_option maxRecDepth 100000
theorem geq_str (a b : List UInt8) (w : World) : (binOp .geq 9 (.string (str a)) (.string (str b))).run Tryd.prog w = .ok (.bool !ltB a b) w := by
  rw [← less_str]
  simp [binOp, Op.stringOp, go_sem]
theorem pattern_g (l : List UInt8) (E b : Bool) (H1 : Ret 90 #[.string (str l)] (.bool b)) (fE : (str l).toList.isEmpty = E)  : Ret 100 #[.string (str l)] (.bool (E || b)) := by
  intro w tab
  have bel := Below.refl w.heap.size w
  cases E with
  | false =>
    cases b with
    | false =>
      go_enter Tryd.func100, Tryd.ntmps100
      go_wp2_with (first | ((with_reducible refine (H1.at _ tab).mono ?_); rintro e w' ⟨rfl, g⟩; have tab := tab.below g; have bel := chain bel g; clear g))
      go_ret
      exact ⟨rfl, bel⟩
    | true =>
      go_enter Tryd.func100, Tryd.ntmps100
      go_wp2_with (first | ((with_reducible refine (H1.at _ tab).mono ?_); rintro e w' ⟨rfl, g⟩; have tab := tab.below g; have bel := chain bel g; clear g))
      go_ret
      exact ⟨rfl, bel⟩
  | true =>
    go_enter Tryd.func100, Tryd.ntmps100
    go_wp2_with (first | ((with_reducible refine (H1.at _ tab).mono ?_); rintro e w' ⟨rfl, g⟩; have tab := tab.below g; have bel := chain bel g; clear g))
    go_ret
    exact ⟨rfl, bel⟩
theorem refIs_g (l : List UInt8) (hz : 0 < (str l).size) (hm : (str l).size ≤ 9223372036854775807) (b : Bool) (H1 : Ret 51 #[.string (str l)] (.bool b))   : Ret 70 #[.string (str l)] (.bool b) := by
  intro w tab
  have bel := Below.refl w.heap.size w
  cases b with
  | false =>
    go_enter Tryd.func70, Tryd.ntmps70
    go_wp2_with (first | ((with_reducible refine (H1.at _ tab).mono ?_); rintro e w' ⟨rfl, g⟩; have tab := tab.below g; have bel := chain bel g; clear g))
    go_ret
    exact ⟨rfl, bel⟩
  | true =>
    go_enter Tryd.func70, Tryd.ntmps70
    go_wp2_with (first | ((with_reducible refine (H1.at _ tab).mono ?_); rintro e w' ⟨rfl, g⟩; have tab := tab.below g; have bel := chain bel g; clear g))
    go_ret
    exact ⟨rfl, bel⟩
theorem refIn_g (k f t : List UInt8) (b1 b2 b3 L E M : Bool) (H1 : Ret 70 #[.string (str k)] (.bool b1)) (H2 : Ret 51 #[.string (str f)] (.bool b2)) (H3 : Ret 51 #[.string (str t)] (.bool b3)) (H4 : Ret 52 #[.string (str k), .string (str f)] (.bool L)) (H5 : Ret 52 #[.string (str k), .string (str t)] (.bool M)) (fE : (str t).toList.isEmpty = E)  : Ret 83 #[.string (str k), .string (str f), .string (str t)] (.bool (b1 && b2 && b3 && !L && (E || M))) := by
  intro w tab
  have bel := Below.refl w.heap.size w
  cases b1 with
  | false =>
    go_enter Tryd.func83, Tryd.ntmps83
    go_wp2_with (first | ((with_reducible refine (H1.at _ tab).mono ?_); rintro e w' ⟨rfl, g⟩; have tab := tab.below g; have bel := chain bel g; clear g) | ((with_reducible refine (H2.at _ tab).mono ?_); rintro e w' ⟨rfl, g⟩; have tab := tab.below g; have bel := chain bel g; clear g) | ((with_reducible refine (H3.at _ tab).mono ?_); rintro e w' ⟨rfl, g⟩; have tab := tab.below g; have bel := chain bel g; clear g) | ((with_reducible refine (H4.at _ tab).mono ?_); rintro e w' ⟨rfl, g⟩; have tab := tab.below g; have bel := chain bel g; clear g) | ((with_reducible refine (H5.at _ tab).mono ?_); rintro e w' ⟨rfl, g⟩; have tab := tab.below g; have bel := chain bel g; clear g))
    go_ret
    exact ⟨rfl, bel⟩
  | true =>
    cases b2 with
    | false =>
      go_enter Tryd.func83, Tryd.ntmps83
      go_wp2_with (first | ((with_reducible refine (H1.at _ tab).mono ?_); rintro e w' ⟨rfl, g⟩; have tab := tab.below g; have bel := chain bel g; clear g) | ((with_reducible refine (H2.at _ tab).mono ?_); rintro e w' ⟨rfl, g⟩; have tab := tab.below g; have bel := chain bel g; clear g) | ((with_reducible refine (H3.at _ tab).mono ?_); rintro e w' ⟨rfl, g⟩; have tab := tab.below g; have bel := chain bel g; clear g) | ((with_reducible refine (H4.at _ tab).mono ?_); rintro e w' ⟨rfl, g⟩; have tab := tab.below g; have bel := chain bel g; clear g) | ((with_reducible refine (H5.at _ tab).mono ?_); rintro e w' ⟨rfl, g⟩; have tab := tab.below g; have bel := chain bel g; clear g))
      go_ret
      exact ⟨rfl, bel⟩
    | true =>
      cases b3 with
      | false =>
        go_enter Tryd.func83, Tryd.ntmps83
        go_wp2_with (first | ((with_reducible refine (H1.at _ tab).mono ?_); rintro e w' ⟨rfl, g⟩; have tab := tab.below g; have bel := chain bel g; clear g) | ((with_reducible refine (H2.at _ tab).mono ?_); rintro e w' ⟨rfl, g⟩; have tab := tab.below g; have bel := chain bel g; clear g) | ((with_reducible refine (H3.at _ tab).mono ?_); rintro e w' ⟨rfl, g⟩; have tab := tab.below g; have bel := chain bel g; clear g) | ((with_reducible refine (H4.at _ tab).mono ?_); rintro e w' ⟨rfl, g⟩; have tab := tab.below g; have bel := chain bel g; clear g) | ((with_reducible refine (H5.at _ tab).mono ?_); rintro e w' ⟨rfl, g⟩; have tab := tab.below g; have bel := chain bel g; clear g))
        go_ret
        exact ⟨rfl, bel⟩
      | true =>
        cases L with
        | false =>
          cases E with
          | false =>
            cases M with
            | false =>
              go_enter Tryd.func83, Tryd.ntmps83
              go_wp2_with (first | ((with_reducible refine (H1.at _ tab).mono ?_); rintro e w' ⟨rfl, g⟩; have tab := tab.below g; have bel := chain bel g; clear g) | ((with_reducible refine (H2.at _ tab).mono ?_); rintro e w' ⟨rfl, g⟩; have tab := tab.below g; have bel := chain bel g; clear g) | ((with_reducible refine (H3.at _ tab).mono ?_); rintro e w' ⟨rfl, g⟩; have tab := tab.below g; have bel := chain bel g; clear g) | ((with_reducible refine (H4.at _ tab).mono ?_); rintro e w' ⟨rfl, g⟩; have tab := tab.below g; have bel := chain bel g; clear g) | ((with_reducible refine (H5.at _ tab).mono ?_); rintro e w' ⟨rfl, g⟩; have tab := tab.below g; have bel := chain bel g; clear g))
              go_ret
              exact ⟨rfl, bel⟩
            | true =>
              go_enter Tryd.func83, Tryd.ntmps83
              go_wp2_with (first | ((with_reducible refine (H1.at _ tab).mono ?_); rintro e w' ⟨rfl, g⟩; have tab := tab.below g; have bel := chain bel g; clear g) | ((with_reducible refine (H2.at _ tab).mono ?_); rintro e w' ⟨rfl, g⟩; have tab := tab.below g; have bel := chain bel g; clear g) | ((with_reducible refine (H3.at _ tab).mono ?_); rintro e w' ⟨rfl, g⟩; have tab := tab.below g; have bel := chain bel g; clear g) | ((with_reducible refine (H4.at _ tab).mono ?_); rintro e w' ⟨rfl, g⟩; have tab := tab.below g; have bel := chain bel g; clear g) | ((with_reducible refine (H5.at _ tab).mono ?_); rintro e w' ⟨rfl, g⟩; have tab := tab.below g; have bel := chain bel g; clear g))
              go_ret
              exact ⟨rfl, bel⟩
          | true =>
            go_enter Tryd.func83, Tryd.ntmps83
            go_wp2_with (first | ((with_reducible refine (H1.at _ tab).mono ?_); rintro e w' ⟨rfl, g⟩; have tab := tab.below g; have bel := chain bel g; clear g) | ((with_reducible refine (H2.at _ tab).mono ?_); rintro e w' ⟨rfl, g⟩; have tab := tab.below g; have bel := chain bel g; clear g) | ((with_reducible refine (H3.at _ tab).mono ?_); rintro e w' ⟨rfl, g⟩; have tab := tab.below g; have bel := chain bel g; clear g) | ((with_reducible refine (H4.at _ tab).mono ?_); rintro e w' ⟨rfl, g⟩; have tab := tab.below g; have bel := chain bel g; clear g) | ((with_reducible refine (H5.at _ tab).mono ?_); rintro e w' ⟨rfl, g⟩; have tab := tab.below g; have bel := chain bel g; clear g))
            go_ret
            exact ⟨rfl, bel⟩
        | true =>
          go_enter Tryd.func83, Tryd.ntmps83
          go_wp2_with (first | ((with_reducible refine (H1.at _ tab).mono ?_); rintro e w' ⟨rfl, g⟩; have tab := tab.below g; have bel := chain bel g; clear g) | ((with_reducible refine (H2.at _ tab).mono ?_); rintro e w' ⟨rfl, g⟩; have tab := tab.below g; have bel := chain bel g; clear g) | ((with_reducible refine (H3.at _ tab).mono ?_); rintro e w' ⟨rfl, g⟩; have tab := tab.below g; have bel := chain bel g; clear g) | ((with_reducible refine (H4.at _ tab).mono ?_); rintro e w' ⟨rfl, g⟩; have tab := tab.below g; have bel := chain bel g; clear g) | ((with_reducible refine (H5.at _ tab).mono ?_); rintro e w' ⟨rfl, g⟩; have tab := tab.below g; have bel := chain bel g; clear g))
          go_ret
          exact ⟨rfl, bel⟩
end Go.Proofs.YtmjedjhkhjiigaaDoor
