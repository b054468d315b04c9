/- Values: sum, difference, product, quotient, what is left. Written by wip/tools/gen7i.py. -/
import Derived.Test.YtcehgfganjdghaaDoorQVTC13
import Derived.RangeFuncWrites
namespace Go.Proofs.YtcehgfganjdghaaDoor.V7
open Go Go.RowKit
set_option linter.unusedVariables false
set_option linter.unusedSimpArgs false
/-- What an operation comes to, as the program has it. -/
def opV (E er z : Int) : Value := .tuple #[.agg #[.int .i64 (cmpK E er), .int .i64 (cmpI E er z), .string (str [])], .int .i64 (cmpE E er)]
set_option maxRecDepth 100000 in
set_option maxHeartbeats 400000 in
theorem add_any (k i : Int) (s : List UInt8) (k' i' : Int) (s' : List UInt8) (hs : s.length ≤ maxLen) (hs' : s'.length ≤ maxLen) (hi : fits i) (hi' : fits i') (w : World) :
    Calls Tryd.prog 75 #[.agg #[.int .i64 k, .int .i64 i, .string (str s)], .agg #[.int .i64 k', .int .i64 i', .string (str s')]] w fun e w' => e = .returned (opV (expE 2 ⟨k, i, s⟩ ⟨k', i', s'⟩) (overE (i + i')) (wrap64 (i + i'))) ∧ Below w.heap.size w w' := by
  have X := fun w => compute_any 97 (wrap64 (i + i')) (overE (i + i')) k i s k' i' s' hs hs' (fun w => (addF_any i i' hi hi' w).mono fun e w' h => ⟨h.1, by rw [h.2]; exact Below.refl _ _⟩) (enters_of Tryd.func97 (by kernel_rfl) rfl) w
  unfold opV
  generalize cmpK (expE 2 ⟨k, i, s⟩ ⟨k', i', s'⟩) (overE (i + i')) = K at X ⊢
  generalize cmpI (expE 2 ⟨k, i, s⟩ ⟨k', i', s'⟩) (overE (i + i')) (wrap64 (i + i')) = I at X ⊢
  generalize cmpE (expE 2 ⟨k, i, s⟩ ⟨k', i', s'⟩) (overE (i + i')) = E at X ⊢
  clear hs hs' hi hi'
  obtain ⟨q1, q2, q3⟩ := three_allocs w (.cells #[.int .i64 k, .int .i64 i, .string (str s)] 30) (.cells #[.int .i64 k', .int .i64 i', .string (str s')] 30) (.cells #[.int .i64 0, .int .i64 0, .string (str [])] 30)
  have bel : Below w.heap.size w (((w.alloc (.cells #[.int .i64 k, .int .i64 i, .string (str s)] 30)).alloc (.cells #[.int .i64 k', .int .i64 i', .string (str s')] 30)).alloc (.cells #[.int .i64 0, .int .i64 0, .string (str [])] 30)) := (((Below.refl _ w).alloc (Nat.le_refl _) _).alloc (by simp) _).alloc (by simp; omega) _
  go_enter Tryd.func75, Tryd.ntmps75
  go_wp2_with fail
  refine (X _).mono ?_
  rintro e w1 ⟨rfl, g⟩
  clear q1 q2
  replace q3 := (g.block _ (lt_of_block q3)).trans q3
  replace bel := chain bel g
  clear g X
  obtain ⟨q3c0, q3c1, q3c2⟩ := cells3 q3
  have q3l := lt_of_block q3
  have fz := frozen3 q3
  go_wp2_with fail
  obtain ⟨r0, r1, r2, bel2⟩ := set3 (.int .i64 K) (.int .i64 I) (.string (str [])) q3 bel (by omega)
  refine bodyPost_ret (v := .tuple #[.agg #[.int .i64 K, .int .i64 I, .string (str [])], .int .i64 E]) (by simp [results, Tryd.results75, go_sem, r0, r1, r2, str_e]) rfl ⟨rfl, bel2⟩
set_option maxRecDepth 100000 in
set_option maxHeartbeats 400000 in
theorem div_any (k i : Int) (s : List UInt8) (k' i' : Int) (s' : List UInt8) (hs : s.length ≤ maxLen) (hs' : s'.length ≤ maxLen) (w : World) :
    Calls Tryd.prog 76 #[.agg #[.int .i64 k, .int .i64 i, .string (str s)], .agg #[.int .i64 k', .int .i64 i', .string (str s')]] w fun e w' => e = .returned (opV (expE 2 ⟨k, i, s⟩ ⟨k', i', s'⟩) (divE i i') (divN i i')) ∧ Below w.heap.size w w' := by
  have X := fun w => compute_any 99 (divN i i') (divE i i') k i s k' i' s' hs hs' (fun w => divF_any i i' w) (enters_of Tryd.func99 (by kernel_rfl) rfl) w
  unfold opV
  generalize cmpK (expE 2 ⟨k, i, s⟩ ⟨k', i', s'⟩) (divE i i') = K at X ⊢
  generalize cmpI (expE 2 ⟨k, i, s⟩ ⟨k', i', s'⟩) (divE i i') (divN i i') = I at X ⊢
  generalize cmpE (expE 2 ⟨k, i, s⟩ ⟨k', i', s'⟩) (divE i i') = E at X ⊢
  clear hs hs'
  obtain ⟨q1, q2, q3⟩ := three_allocs w (.cells #[.int .i64 k, .int .i64 i, .string (str s)] 30) (.cells #[.int .i64 k', .int .i64 i', .string (str s')] 30) (.cells #[.int .i64 0, .int .i64 0, .string (str [])] 30)
  have bel : Below w.heap.size w (((w.alloc (.cells #[.int .i64 k, .int .i64 i, .string (str s)] 30)).alloc (.cells #[.int .i64 k', .int .i64 i', .string (str s')] 30)).alloc (.cells #[.int .i64 0, .int .i64 0, .string (str [])] 30)) := (((Below.refl _ w).alloc (Nat.le_refl _) _).alloc (by simp) _).alloc (by simp; omega) _
  go_enter Tryd.func76, Tryd.ntmps76
  go_wp2_with fail
  refine (X _).mono ?_
  rintro e w1 ⟨rfl, g⟩
  clear q1 q2
  replace q3 := (g.block _ (lt_of_block q3)).trans q3
  replace bel := chain bel g
  clear g X
  obtain ⟨q3c0, q3c1, q3c2⟩ := cells3 q3
  have q3l := lt_of_block q3
  have fz := frozen3 q3
  go_wp2_with fail
  obtain ⟨r0, r1, r2, bel2⟩ := set3 (.int .i64 K) (.int .i64 I) (.string (str [])) q3 bel (by omega)
  refine bodyPost_ret (v := .tuple #[.agg #[.int .i64 K, .int .i64 I, .string (str [])], .int .i64 E]) (by simp [results, Tryd.results76, go_sem, r0, r1, r2, str_e]) rfl ⟨rfl, bel2⟩
set_option maxRecDepth 100000 in
set_option maxHeartbeats 400000 in
theorem mod_any (k i : Int) (s : List UInt8) (k' i' : Int) (s' : List UInt8) (hs : s.length ≤ maxLen) (hs' : s'.length ≤ maxLen) (w : World) :
    Calls Tryd.prog 77 #[.agg #[.int .i64 k, .int .i64 i, .string (str s)], .agg #[.int .i64 k', .int .i64 i', .string (str s')]] w fun e w' => e = .returned (opV (expE 2 ⟨k, i, s⟩ ⟨k', i', s'⟩) (modE i') (modN i i')) ∧ Below w.heap.size w w' := by
  have X := fun w => compute_any 100 (modN i i') (modE i') k i s k' i' s' hs hs' (fun w => modF_any i i' w) (enters_of Tryd.func100 (by kernel_rfl) rfl) w
  unfold opV
  generalize cmpK (expE 2 ⟨k, i, s⟩ ⟨k', i', s'⟩) (modE i') = K at X ⊢
  generalize cmpI (expE 2 ⟨k, i, s⟩ ⟨k', i', s'⟩) (modE i') (modN i i') = I at X ⊢
  generalize cmpE (expE 2 ⟨k, i, s⟩ ⟨k', i', s'⟩) (modE i') = E at X ⊢
  clear hs hs'
  obtain ⟨q1, q2, q3⟩ := three_allocs w (.cells #[.int .i64 k, .int .i64 i, .string (str s)] 30) (.cells #[.int .i64 k', .int .i64 i', .string (str s')] 30) (.cells #[.int .i64 0, .int .i64 0, .string (str [])] 30)
  have bel : Below w.heap.size w (((w.alloc (.cells #[.int .i64 k, .int .i64 i, .string (str s)] 30)).alloc (.cells #[.int .i64 k', .int .i64 i', .string (str s')] 30)).alloc (.cells #[.int .i64 0, .int .i64 0, .string (str [])] 30)) := (((Below.refl _ w).alloc (Nat.le_refl _) _).alloc (by simp) _).alloc (by simp; omega) _
  go_enter Tryd.func77, Tryd.ntmps77
  go_wp2_with fail
  refine (X _).mono ?_
  rintro e w1 ⟨rfl, g⟩
  clear q1 q2
  replace q3 := (g.block _ (lt_of_block q3)).trans q3
  replace bel := chain bel g
  clear g X
  obtain ⟨q3c0, q3c1, q3c2⟩ := cells3 q3
  have q3l := lt_of_block q3
  have fz := frozen3 q3
  go_wp2_with fail
  obtain ⟨r0, r1, r2, bel2⟩ := set3 (.int .i64 K) (.int .i64 I) (.string (str [])) q3 bel (by omega)
  refine bodyPost_ret (v := .tuple #[.agg #[.int .i64 K, .int .i64 I, .string (str [])], .int .i64 E]) (by simp [results, Tryd.results77, go_sem, r0, r1, r2, str_e]) rfl ⟨rfl, bel2⟩
end Go.Proofs.YtcehgfganjdghaaDoor.V7
