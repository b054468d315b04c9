/- Keys: the calls that ask one thing behind the other. Written by wip/tools/gen8e.py. -/
/- Keys: the contracts of the small calls, whatever texts. Written by wip/tools/gen8f.py. -/
import Derived.Test.YtjmfiekgpoonjaaDoorQLGC6
namespace Go.Proofs.YtjmfiekgpoonjaaDoor
open Go Go.RowKit
set_option linter.unusedVariables false
set_option linter.unusedSimpArgs false
set_option maxRecDepth 100000
theorem geq_str (a b : List UInt8) (w : World) : (binOp .geq 9 (.string (str a)) (.string (str b))).run Tryd.prog w = .ok (.bool !ltB a b) w := by
  rw [← less_str]
  simp [binOp, Op.stringOp, go_sem]
theorem pattern_g (l : List UInt8) (E b : Bool) (H1 : Ret 63 #[.string (str l)] (.bool b)) (fE : (str l).toList.isEmpty = E)  : Ret 54 #[.string (str l)] (.bool (E || b)) := by
  intro w tab
  have bel := Below.refl w.heap.size w
  cases E with
  | false =>
    cases b with
    | false =>
      go_enter Tryd.func54, Tryd.ntmps54
      go_wp2_with (first | ((with_reducible refine (H1.at _ tab).mono ?_); rintro e w' ⟨rfl, g⟩; have tab := tab.below g; have bel := chain bel g; clear g))
      go_ret
      exact ⟨rfl, bel⟩
    | true =>
      go_enter Tryd.func54, Tryd.ntmps54
      go_wp2_with (first | ((with_reducible refine (H1.at _ tab).mono ?_); rintro e w' ⟨rfl, g⟩; have tab := tab.below g; have bel := chain bel g; clear g))
      go_ret
      exact ⟨rfl, bel⟩
  | true =>
    go_enter Tryd.func54, Tryd.ntmps54
    go_wp2_with (first | ((with_reducible refine (H1.at _ tab).mono ?_); rintro e w' ⟨rfl, g⟩; have tab := tab.below g; have bel := chain bel g; clear g))
    go_ret
    exact ⟨rfl, bel⟩
theorem meet_g (a b : List UInt8) (b1 b2 b3 b4 : Bool) (H1 : Ret 54 #[.string (str a)] (.bool b1)) (H2 : Ret 54 #[.string (str b)] (.bool b2)) (H3 : Ret 72 #[.string (str a), .string (str b)] (.bool b3)) (H4 : Ret 72 #[.string (str b), .string (str a)] (.bool b4))   : Ret 67 #[.string (str a), .string (str b)] (.bool (b1 && b2 && (b3 || b4))) := by
  intro w tab
  have bel := Below.refl w.heap.size w
  cases b1 with
  | false =>
    go_enter Tryd.func67, Tryd.ntmps67
    go_wp2_with (first | ((with_reducible refine (H1.at _ tab).mono ?_); rintro e w' ⟨rfl, g⟩; have tab := tab.below g; have bel := chain bel g; clear g) | ((with_reducible refine (H2.at _ tab).mono ?_); rintro e w' ⟨rfl, g⟩; have tab := tab.below g; have bel := chain bel g; clear g) | ((with_reducible refine (H3.at _ tab).mono ?_); rintro e w' ⟨rfl, g⟩; have tab := tab.below g; have bel := chain bel g; clear g) | ((with_reducible refine (H4.at _ tab).mono ?_); rintro e w' ⟨rfl, g⟩; have tab := tab.below g; have bel := chain bel g; clear g))
    go_ret
    exact ⟨rfl, bel⟩
  | true =>
    cases b2 with
    | false =>
      go_enter Tryd.func67, Tryd.ntmps67
      go_wp2_with (first | ((with_reducible refine (H1.at _ tab).mono ?_); rintro e w' ⟨rfl, g⟩; have tab := tab.below g; have bel := chain bel g; clear g) | ((with_reducible refine (H2.at _ tab).mono ?_); rintro e w' ⟨rfl, g⟩; have tab := tab.below g; have bel := chain bel g; clear g) | ((with_reducible refine (H3.at _ tab).mono ?_); rintro e w' ⟨rfl, g⟩; have tab := tab.below g; have bel := chain bel g; clear g) | ((with_reducible refine (H4.at _ tab).mono ?_); rintro e w' ⟨rfl, g⟩; have tab := tab.below g; have bel := chain bel g; clear g))
      go_ret
      exact ⟨rfl, bel⟩
    | true =>
      cases b3 with
      | false =>
        cases b4 with
        | false =>
          go_enter Tryd.func67, Tryd.ntmps67
          go_wp2_with (first | ((with_reducible refine (H1.at _ tab).mono ?_); rintro e w' ⟨rfl, g⟩; have tab := tab.below g; have bel := chain bel g; clear g) | ((with_reducible refine (H2.at _ tab).mono ?_); rintro e w' ⟨rfl, g⟩; have tab := tab.below g; have bel := chain bel g; clear g) | ((with_reducible refine (H3.at _ tab).mono ?_); rintro e w' ⟨rfl, g⟩; have tab := tab.below g; have bel := chain bel g; clear g) | ((with_reducible refine (H4.at _ tab).mono ?_); rintro e w' ⟨rfl, g⟩; have tab := tab.below g; have bel := chain bel g; clear g))
          go_ret
          exact ⟨rfl, bel⟩
        | true =>
          go_enter Tryd.func67, Tryd.ntmps67
          go_wp2_with (first | ((with_reducible refine (H1.at _ tab).mono ?_); rintro e w' ⟨rfl, g⟩; have tab := tab.below g; have bel := chain bel g; clear g) | ((with_reducible refine (H2.at _ tab).mono ?_); rintro e w' ⟨rfl, g⟩; have tab := tab.below g; have bel := chain bel g; clear g) | ((with_reducible refine (H3.at _ tab).mono ?_); rintro e w' ⟨rfl, g⟩; have tab := tab.below g; have bel := chain bel g; clear g) | ((with_reducible refine (H4.at _ tab).mono ?_); rintro e w' ⟨rfl, g⟩; have tab := tab.below g; have bel := chain bel g; clear g))
          go_ret
          exact ⟨rfl, bel⟩
      | true =>
        go_enter Tryd.func67, Tryd.ntmps67
        go_wp2_with (first | ((with_reducible refine (H1.at _ tab).mono ?_); rintro e w' ⟨rfl, g⟩; have tab := tab.below g; have bel := chain bel g; clear g) | ((with_reducible refine (H2.at _ tab).mono ?_); rintro e w' ⟨rfl, g⟩; have tab := tab.below g; have bel := chain bel g; clear g) | ((with_reducible refine (H3.at _ tab).mono ?_); rintro e w' ⟨rfl, g⟩; have tab := tab.below g; have bel := chain bel g; clear g) | ((with_reducible refine (H4.at _ tab).mono ?_); rintro e w' ⟨rfl, g⟩; have tab := tab.below g; have bel := chain bel g; clear g))
        go_ret
        exact ⟨rfl, bel⟩
end Go.Proofs.YtjmfiekgpoonjaaDoor
namespace Go.Proofs.YtjmfiekgpoonjaaDoor
open Go Go.RowKit
set_option linter.unusedVariables false
set_option linter.unusedSimpArgs false
theorem ret_cast {f : Nat} {args : Array Value} {v v' : Value} (h : Ret f args v) (e : v = v') : Ret f args v' := e ▸ h
theorem bool_cast {f : Nat} {args : Array Value} {b b' : Bool} (h : Ret f args (.bool b)) (e : b = b') : Ret f args (.bool b') := e ▸ h
theorem emp_eq (l : List UInt8) : (str l).toList.isEmpty = decide (l = []) := by rw [str_tl]; cases l <;> rfl
theorem patB_nil : patB [] = true := rfl
theorem isB_pos {l : List UInt8} (h : l ≠ []) : isB l = patB l := by
  have : 0 < l.length := List.length_pos_iff.2 h
  simp [isB, this]
theorem pattern_any (l : List UInt8) (hl : l.length ≤ maxLen) : Ret 54 #[.string (str l)] (.bool (patB l)) := by
  refine bool_cast (pattern_g l _ _ (is_any l hl).ret (emp_eq l)) ?_
  by_cases h : l = []
  · subst h; rfl
  · rw [isB_pos h]; simp [h]
/-- The last byte turned by d, as it comes out. -/
theorem last_split {l : List UInt8} (h : l ≠ []) : ∃ p c, l = p ++ [c] := ⟨l.dropLast, l.getLast h, (List.dropLast_concat_getLast h).symm⟩
theorem shiftL_snoc (p : List UInt8) (c : UInt8) (d : Nat) : shiftL (p ++ [c]) d = p ++ [UInt8.ofNat (c.toNat + d)] := by
  have h : p ++ [c] ≠ [] := by simp
  unfold shiftL
  rw [if_neg h, List.dropLast_concat]
  simp
theorem snoc_ex (p : List UInt8) (c : UInt8) : (str (p ++ [c])).extract 0 p.length = str p := by rw [str_extract]; simp
theorem snoc_byte (p : List UInt8) (c : UInt8) : ∀ h : p.length < (str (p ++ [c])).size, ((str (p ++ [c]))[p.length]'h).toNat = c.toNat := fun h => by rw [str_byte]; simp
theorem snoc_ne (p : List UInt8) (c : UInt8) : (str (p ++ [c])).toList.isEmpty = false := by rw [emp_eq]; simp
theorem snoc_size (p : List UInt8) (c : UInt8) : (str (p ++ [c])).size = p.length + 1 := by rw [str_size]; simp
theorem shiftL_len (l : List UInt8) (d : Nat) : (shiftL l d).length = l.length := by
  by_cases h : l = []
  · subst h; rfl
  · obtain ⟨p, c, rfl⟩ := last_split h
    rw [shiftL_snoc]; simp
theorem meet_any (a b : List UInt8) (ha : a.length ≤ maxLen) (hb : b.length ≤ maxLen) : Ret 67 #[.string (str a), .string (str b)] (.bool (patB a && patB b && (Lib.hasPrefix a b || Lib.hasPrefix b a))) :=
  meet_g a b _ _ _ _ (pattern_any a ha) (pattern_any b hb) (prefix_any a b).ret (prefix_any b a).ret
theorem endL_len (l : List UInt8) : (endL l).length = l.length := shiftL_len l 1
/-- May a text be the end of a range? -/
def stopB (l : List UInt8) : Bool := patB l || (!decide (l = []) && isB (shiftL l 255))
def overB (f t p : List UInt8) : Bool := patB f && patB p && stopB t && (decide (endL p = []) || ltB f (endL p)) && (decide (t = []) || ltB p t)
theorem okc_255 : okc 255 = false := rfl
theorem patB_snoc_no (p : List UInt8) {c : UInt8} (h : okc c = false) : patB (p ++ [c]) = false := by
  unfold patB
  rw [List.all_append]
  simp [h]
end Go.Proofs.YtjmfiekgpoonjaaDoor
