/- Values: how any two are to one another, by the document. Written by wip/tools/gen7s.py. -/
import Derived.Test.YthakimgpaemfeaaV07R
namespace Go.Proofs.Ythakimgpaemfeaa
open Go Go.RowKit
set_option linter.unusedVariables false
set_option linter.unusedSimpArgs false
theorem refBool_n (b : Bool) (w : World) :
    Calls Try.prog 19 #[.bool b] w fun e w' => e = .returned (.agg #[.int .i64 1, .int .i64 (n01 b), .string (str [])]) ∧ Below w.heap.size w w' := by
  unfold n01
  cases b
  all_goals
    go_enter Try.func19, Try.ntmps19
    go_wp2_with fail
    refine bodyPost_ret (v := .agg #[.int .i64 1, .int .i64 _, .string (str [])]) (by simp [results, Try.results19, go_sem, str_e]) rfl ⟨rfl, ?_⟩
    exact ((Below.refl _ _).alloc (Nat.le_refl _) _).alloc (by simp) _
theorem is_same (k i : Int) (s : List UInt8) (x : Int) (w : World) :
    Calls Try.prog 24 #[.agg #[.int .i64 k, .int .i64 i, .string (str s)], .int .i64 x, .agg #[.int .i64 k, .int .i64 i, .string (str s)], .int .i64 x] w fun e w' => e = .returned (.bool true) ∧ Below w.heap.size w w' := by
  have bel : ∀ o o', Below w.heap.size w ((w.alloc o).alloc o') := fun o o' => ((Below.refl _ _).alloc (Nat.le_refl _) o).alloc (by simp) o'
  have BEL := Lib.hid bel
  clear bel
  go_enter Try.func24, Try.ntmps24
  go_wp2_with fail
  all_goals
    go_ret
    exact ⟨rfl, BEL.out _ _⟩
theorem cmpV_form (op : Int) (a b : V) : ∃ k i e : Int, cmpV op a b = .tuple #[.agg #[.int .i64 k, .int .i64 i, .string (str [])], .int .i64 e] := by
  unfold cmpV
  split
  · exact ⟨_, _, _, rfl⟩
  · split
    · exact ⟨_, _, _, rfl⟩
    · split
      · exact ⟨_, _, _, rfl⟩
      · split
        · exact ⟨_, _, _, rfl⟩
        · exact ⟨_, _, _, rfl⟩
set_option maxRecDepth 100000 in
set_option maxHeartbeats 4000000 in
theorem refCompare_any (op k i : Int) (s : List UInt8) (k' i' : Int) (s' : List UInt8) (hs : s.length ≤ maxLen) (hs' : s'.length ≤ maxLen) (w : World) :
    Calls Try.prog 31 #[.int .i64 op, .agg #[.int .i64 k, .int .i64 i, .string (str s)], .agg #[.int .i64 k', .int .i64 i', .string (str s')]] w fun e w' => e = .returned (cmpV op ⟨k, i, s⟩ ⟨k', i', s'⟩) ∧ Below w.heap.size w w' := by
  have M1 := fun w => refMay_any k i s w hs
  have M2 := fun w => refMay_any k' i' s' w hs'
  have O := fun w => refOrder_any k i s k' i' s' w
  have Bo := refBool_n
  obtain ⟨R, hR⟩ : ∃ R, R = cmpV op ⟨k, i, s⟩ ⟨k', i', s'⟩ := ⟨_, rfl⟩
  rw [← hR]
  unfold cmpV at hR
  have r := ordV_range ⟨k, i, s⟩ ⟨k', i', s'⟩
  generalize mayB ⟨k, i, s⟩ = m1 at M1 hR
  generalize mayB ⟨k', i', s'⟩ = m2 at M2 hR
  generalize ordV ⟨k, i, s⟩ ⟨k', i', s'⟩ = o at O hR r
  simp only at hR
  clear hs hs'
  obtain ⟨q1, q2, q3⟩ := three_allocs w (.cells #[.int .i64 k, .int .i64 i, .string (str s)] 23) (.cells #[.int .i64 k', .int .i64 i', .string (str s')] 23) (.cells #[.int .i64 0, .int .i64 0, .string (str [])] 23)
  have bel : Below w.heap.size w (((w.alloc (.cells #[.int .i64 k, .int .i64 i, .string (str s)] 23)).alloc (.cells #[.int .i64 k', .int .i64 i', .string (str s')] 23)).alloc (.cells #[.int .i64 0, .int .i64 0, .string (str [])] 23)) := (((Below.refl _ w).alloc (Nat.le_refl _) _).alloc (by simp) _).alloc (by simp; omega) _
  cases m1 with
  | false =>
    rw [if_pos rfl] at hR
    have HR := Lib.hid hR
    clear hR
    go_enter Try.func31, Try.ntmps31
    go_wp2_with fail
    refine (M1 _).mono ?_
    rintro e w1 ⟨rfl, g⟩
    replace q1 := (g.block _ (lt_of_block q1)).trans q1
    replace q2 := (g.block _ (lt_of_block q2)).trans q2
    replace q3 := (g.block _ (lt_of_block q3)).trans q3
    replace bel := chain bel g
    clear g
    obtain ⟨q1c0, q1c1, q1c2⟩ := cells3 q1
    have q1l := lt_of_block q1
    obtain ⟨q2c0, q2c1, q2c2⟩ := cells3 q2
    have q2l := lt_of_block q2
    obtain ⟨q3c0, q3c1, q3c2⟩ := cells3 q3
    have q3l := lt_of_block q3
    have fz := frozen3 q3
    go_wp2_with fail
    obtain ⟨r0, r1, r2, bel2⟩ := set3 (.int .i64 0) (.int .i64 0) (.string (str [])) q3 bel (by omega)
    refine bodyPost_ret (v := .tuple #[.agg #[.int .i64 0, .int .i64 0, .string (str [])], .int .i64 1]) (by simp [results, Try.results31, go_sem, r0, r1, r2, str_e]) rfl ⟨?_, bel2⟩
    rw [HR.out]; rfl
  | true =>
    rw [if_neg (by simp)] at hR
    cases m2 with
    | false =>
      rw [if_pos rfl] at hR
      have HR := Lib.hid hR
      clear hR
      go_enter Try.func31, Try.ntmps31
      go_wp2_with fail
      refine (M1 _).mono ?_
      rintro e w1 ⟨rfl, g⟩
      replace q1 := (g.block _ (lt_of_block q1)).trans q1
      replace q2 := (g.block _ (lt_of_block q2)).trans q2
      replace q3 := (g.block _ (lt_of_block q3)).trans q3
      replace bel := chain bel g
      clear g
      obtain ⟨q1c0, q1c1, q1c2⟩ := cells3 q1
      have q1l := lt_of_block q1
      obtain ⟨q2c0, q2c1, q2c2⟩ := cells3 q2
      have q2l := lt_of_block q2
      obtain ⟨q3c0, q3c1, q3c2⟩ := cells3 q3
      have q3l := lt_of_block q3
      go_wp2_with fail
      refine (M2 _).mono ?_
      rintro e w1 ⟨rfl, g⟩
      clear q1c0 q1c1 q1c2 q1l
      replace q1 := (g.block _ (lt_of_block q1)).trans q1
      clear q2c0 q2c1 q2c2 q2l
      replace q2 := (g.block _ (lt_of_block q2)).trans q2
      clear q3c0 q3c1 q3c2 q3l
      replace q3 := (g.block _ (lt_of_block q3)).trans q3
      replace bel := chain bel g
      clear g
      obtain ⟨q1c0, q1c1, q1c2⟩ := cells3 q1
      have q1l := lt_of_block q1
      obtain ⟨q2c0, q2c1, q2c2⟩ := cells3 q2
      have q2l := lt_of_block q2
      obtain ⟨q3c0, q3c1, q3c2⟩ := cells3 q3
      have q3l := lt_of_block q3
      have fz := frozen3 q3
      go_wp2_with fail
      obtain ⟨r0, r1, r2, bel2⟩ := set3 (.int .i64 0) (.int .i64 0) (.string (str [])) q3 bel (by omega)
      refine bodyPost_ret (v := .tuple #[.agg #[.int .i64 0, .int .i64 0, .string (str [])], .int .i64 1]) (by simp [results, Try.results31, go_sem, r0, r1, r2, str_e]) rfl ⟨?_, bel2⟩
      rw [HR.out]; rfl
    | true =>
      rw [if_neg (by simp)] at hR
      rcases (show op < 0 ∨ (0 ≤ op ∧ 5 < op) ∨ op = 0 ∨ op = 1 ∨ op = 2 ∨ op = 3 ∨ op = 4 ∨ op = 5 by omega) with h | ⟨h, h5⟩ | rfl | rfl | rfl | rfl | rfl | rfl
      · rw [if_pos (.inl h)] at hR
        have HR := Lib.hid hR
        clear hR
        go_enter Try.func31, Try.ntmps31
        go_wp2_with fail
        refine (M1 _).mono ?_
        rintro e w1 ⟨rfl, g⟩
        replace q1 := (g.block _ (lt_of_block q1)).trans q1
        replace q2 := (g.block _ (lt_of_block q2)).trans q2
        replace q3 := (g.block _ (lt_of_block q3)).trans q3
        replace bel := chain bel g
        clear g
        obtain ⟨q1c0, q1c1, q1c2⟩ := cells3 q1
        have q1l := lt_of_block q1
        obtain ⟨q2c0, q2c1, q2c2⟩ := cells3 q2
        have q2l := lt_of_block q2
        obtain ⟨q3c0, q3c1, q3c2⟩ := cells3 q3
        have q3l := lt_of_block q3
        go_wp2_with fail
        refine (M2 _).mono ?_
        rintro e w1 ⟨rfl, g⟩
        clear q1c0 q1c1 q1c2 q1l
        replace q1 := (g.block _ (lt_of_block q1)).trans q1
        clear q2c0 q2c1 q2c2 q2l
        replace q2 := (g.block _ (lt_of_block q2)).trans q2
        clear q3c0 q3c1 q3c2 q3l
        replace q3 := (g.block _ (lt_of_block q3)).trans q3
        replace bel := chain bel g
        clear g
        obtain ⟨q1c0, q1c1, q1c2⟩ := cells3 q1
        have q1l := lt_of_block q1
        obtain ⟨q2c0, q2c1, q2c2⟩ := cells3 q2
        have q2l := lt_of_block q2
        obtain ⟨q3c0, q3c1, q3c2⟩ := cells3 q3
        have q3l := lt_of_block q3
        have fz := frozen3 q3
        go_wp2_with fail
        obtain ⟨r0, r1, r2, bel2⟩ := set3 (.int .i64 0) (.int .i64 0) (.string (str [])) q3 bel (by omega)
        refine bodyPost_ret (v := .tuple #[.agg #[.int .i64 0, .int .i64 0, .string (str [])], .int .i64 4]) (by simp [results, Try.results31, go_sem, r0, r1, r2, str_e]) rfl ⟨?_, bel2⟩
        rw [HR.out]; rfl
      · rw [if_pos (.inr h5)] at hR
        have HR := Lib.hid hR
        clear hR
        go_enter Try.func31, Try.ntmps31
        go_wp2_with fail
        refine (M1 _).mono ?_
        rintro e w1 ⟨rfl, g⟩
        replace q1 := (g.block _ (lt_of_block q1)).trans q1
        replace q2 := (g.block _ (lt_of_block q2)).trans q2
        replace q3 := (g.block _ (lt_of_block q3)).trans q3
        replace bel := chain bel g
        clear g
        obtain ⟨q1c0, q1c1, q1c2⟩ := cells3 q1
        have q1l := lt_of_block q1
        obtain ⟨q2c0, q2c1, q2c2⟩ := cells3 q2
        have q2l := lt_of_block q2
        obtain ⟨q3c0, q3c1, q3c2⟩ := cells3 q3
        have q3l := lt_of_block q3
        go_wp2_with fail
        refine (M2 _).mono ?_
        rintro e w1 ⟨rfl, g⟩
        clear q1c0 q1c1 q1c2 q1l
        replace q1 := (g.block _ (lt_of_block q1)).trans q1
        clear q2c0 q2c1 q2c2 q2l
        replace q2 := (g.block _ (lt_of_block q2)).trans q2
        clear q3c0 q3c1 q3c2 q3l
        replace q3 := (g.block _ (lt_of_block q3)).trans q3
        replace bel := chain bel g
        clear g
        obtain ⟨q1c0, q1c1, q1c2⟩ := cells3 q1
        have q1l := lt_of_block q1
        obtain ⟨q2c0, q2c1, q2c2⟩ := cells3 q2
        have q2l := lt_of_block q2
        obtain ⟨q3c0, q3c1, q3c2⟩ := cells3 q3
        have q3l := lt_of_block q3
        have fz := frozen3 q3
        go_wp2_with fail
        obtain ⟨r0, r1, r2, bel2⟩ := set3 (.int .i64 0) (.int .i64 0) (.string (str [])) q3 bel (by omega)
        refine bodyPost_ret (v := .tuple #[.agg #[.int .i64 0, .int .i64 0, .string (str [])], .int .i64 4]) (by simp [results, Try.results31, go_sem, r0, r1, r2, str_e]) rfl ⟨?_, bel2⟩
        rw [HR.out]; rfl
      · rw [if_neg (by omega), if_neg (by omega)] at hR
        rcases r with rfl | rfl | rfl
        · rw [show cmpB 0 (-1) = false from by decide] at hR
          have HR := Lib.hid hR
          clear hR
          go_enter Try.func31, Try.ntmps31
          go_wp2_with fail
          refine (M1 _).mono ?_
          rintro e w1 ⟨rfl, g⟩
          replace q1 := (g.block _ (lt_of_block q1)).trans q1
          replace q2 := (g.block _ (lt_of_block q2)).trans q2
          replace q3 := (g.block _ (lt_of_block q3)).trans q3
          replace bel := chain bel g
          clear g
          obtain ⟨q1c0, q1c1, q1c2⟩ := cells3 q1
          have q1l := lt_of_block q1
          obtain ⟨q2c0, q2c1, q2c2⟩ := cells3 q2
          have q2l := lt_of_block q2
          obtain ⟨q3c0, q3c1, q3c2⟩ := cells3 q3
          have q3l := lt_of_block q3
          go_wp2_with fail
          refine (M2 _).mono ?_
          rintro e w1 ⟨rfl, g⟩
          clear q1c0 q1c1 q1c2 q1l
          replace q1 := (g.block _ (lt_of_block q1)).trans q1
          clear q2c0 q2c1 q2c2 q2l
          replace q2 := (g.block _ (lt_of_block q2)).trans q2
          clear q3c0 q3c1 q3c2 q3l
          replace q3 := (g.block _ (lt_of_block q3)).trans q3
          replace bel := chain bel g
          clear g
          obtain ⟨q1c0, q1c1, q1c2⟩ := cells3 q1
          have q1l := lt_of_block q1
          obtain ⟨q2c0, q2c1, q2c2⟩ := cells3 q2
          have q2l := lt_of_block q2
          obtain ⟨q3c0, q3c1, q3c2⟩ := cells3 q3
          have q3l := lt_of_block q3
          go_wp2_with fail
          refine (O _).mono ?_
          rintro e w2 ⟨rfl, g⟩
          clear q1c0 q1c1 q1c2 q1l
          replace q1 := (g.block _ (lt_of_block q1)).trans q1
          clear q2c0 q2c1 q2c2 q2l
          replace q2 := (g.block _ (lt_of_block q2)).trans q2
          clear q3c0 q3c1 q3c2 q3l
          replace q3 := (g.block _ (lt_of_block q3)).trans q3
          replace bel := chain bel g
          clear g
          obtain ⟨q1c0, q1c1, q1c2⟩ := cells3 q1
          have q1l := lt_of_block q1
          obtain ⟨q2c0, q2c1, q2c2⟩ := cells3 q2
          have q2l := lt_of_block q2
          obtain ⟨q3c0, q3c1, q3c2⟩ := cells3 q3
          have q3l := lt_of_block q3
          go_wp2_with fail
          refine (Bo (false) _).mono ?_
          rintro e w3 ⟨rfl, g⟩
          clear q1c0 q1c1 q1c2 q1l
          replace q1 := (g.block _ (lt_of_block q1)).trans q1
          clear q2c0 q2c1 q2c2 q2l
          replace q2 := (g.block _ (lt_of_block q2)).trans q2
          clear q3c0 q3c1 q3c2 q3l
          replace q3 := (g.block _ (lt_of_block q3)).trans q3
          replace bel := chain bel g
          clear g
          obtain ⟨q1c0, q1c1, q1c2⟩ := cells3 q1
          have q1l := lt_of_block q1
          obtain ⟨q2c0, q2c1, q2c2⟩ := cells3 q2
          have q2l := lt_of_block q2
          obtain ⟨q3c0, q3c1, q3c2⟩ := cells3 q3
          have q3l := lt_of_block q3
          have fz := frozen3 q3
          go_wp2_with fail
          obtain ⟨r0, r1, r2, bel2⟩ := set3 (.int .i64 1) (.int .i64 (n01 (false))) (.string (str [])) q3 bel (by omega)
          refine bodyPost_ret (v := .tuple #[.agg #[.int .i64 1, .int .i64 (n01 (false)), .string (str [])], .int .i64 0]) (by simp [results, Try.results31, go_sem, r0, r1, r2, str_e]) rfl ⟨?_, bel2⟩
          rw [HR.out]; rfl
        · rw [show cmpB 0 (0) = true from by decide] at hR
          have HR := Lib.hid hR
          clear hR
          go_enter Try.func31, Try.ntmps31
          go_wp2_with fail
          refine (M1 _).mono ?_
          rintro e w1 ⟨rfl, g⟩
          replace q1 := (g.block _ (lt_of_block q1)).trans q1
          replace q2 := (g.block _ (lt_of_block q2)).trans q2
          replace q3 := (g.block _ (lt_of_block q3)).trans q3
          replace bel := chain bel g
          clear g
          obtain ⟨q1c0, q1c1, q1c2⟩ := cells3 q1
          have q1l := lt_of_block q1
          obtain ⟨q2c0, q2c1, q2c2⟩ := cells3 q2
          have q2l := lt_of_block q2
          obtain ⟨q3c0, q3c1, q3c2⟩ := cells3 q3
          have q3l := lt_of_block q3
          go_wp2_with fail
          refine (M2 _).mono ?_
          rintro e w1 ⟨rfl, g⟩
          clear q1c0 q1c1 q1c2 q1l
          replace q1 := (g.block _ (lt_of_block q1)).trans q1
          clear q2c0 q2c1 q2c2 q2l
          replace q2 := (g.block _ (lt_of_block q2)).trans q2
          clear q3c0 q3c1 q3c2 q3l
          replace q3 := (g.block _ (lt_of_block q3)).trans q3
          replace bel := chain bel g
          clear g
          obtain ⟨q1c0, q1c1, q1c2⟩ := cells3 q1
          have q1l := lt_of_block q1
          obtain ⟨q2c0, q2c1, q2c2⟩ := cells3 q2
          have q2l := lt_of_block q2
          obtain ⟨q3c0, q3c1, q3c2⟩ := cells3 q3
          have q3l := lt_of_block q3
          go_wp2_with fail
          refine (O _).mono ?_
          rintro e w2 ⟨rfl, g⟩
          clear q1c0 q1c1 q1c2 q1l
          replace q1 := (g.block _ (lt_of_block q1)).trans q1
          clear q2c0 q2c1 q2c2 q2l
          replace q2 := (g.block _ (lt_of_block q2)).trans q2
          clear q3c0 q3c1 q3c2 q3l
          replace q3 := (g.block _ (lt_of_block q3)).trans q3
          replace bel := chain bel g
          clear g
          obtain ⟨q1c0, q1c1, q1c2⟩ := cells3 q1
          have q1l := lt_of_block q1
          obtain ⟨q2c0, q2c1, q2c2⟩ := cells3 q2
          have q2l := lt_of_block q2
          obtain ⟨q3c0, q3c1, q3c2⟩ := cells3 q3
          have q3l := lt_of_block q3
          go_wp2_with fail
          refine (Bo (true) _).mono ?_
          rintro e w3 ⟨rfl, g⟩
          clear q1c0 q1c1 q1c2 q1l
          replace q1 := (g.block _ (lt_of_block q1)).trans q1
          clear q2c0 q2c1 q2c2 q2l
          replace q2 := (g.block _ (lt_of_block q2)).trans q2
          clear q3c0 q3c1 q3c2 q3l
          replace q3 := (g.block _ (lt_of_block q3)).trans q3
          replace bel := chain bel g
          clear g
          obtain ⟨q1c0, q1c1, q1c2⟩ := cells3 q1
          have q1l := lt_of_block q1
          obtain ⟨q2c0, q2c1, q2c2⟩ := cells3 q2
          have q2l := lt_of_block q2
          obtain ⟨q3c0, q3c1, q3c2⟩ := cells3 q3
          have q3l := lt_of_block q3
          have fz := frozen3 q3
          go_wp2_with fail
          obtain ⟨r0, r1, r2, bel2⟩ := set3 (.int .i64 1) (.int .i64 (n01 (true))) (.string (str [])) q3 bel (by omega)
          refine bodyPost_ret (v := .tuple #[.agg #[.int .i64 1, .int .i64 (n01 (true)), .string (str [])], .int .i64 0]) (by simp [results, Try.results31, go_sem, r0, r1, r2, str_e]) rfl ⟨?_, bel2⟩
          rw [HR.out]; rfl
        · rw [show cmpB 0 (1) = false from by decide] at hR
          have HR := Lib.hid hR
          clear hR
          go_enter Try.func31, Try.ntmps31
          go_wp2_with fail
          refine (M1 _).mono ?_
          rintro e w1 ⟨rfl, g⟩
          replace q1 := (g.block _ (lt_of_block q1)).trans q1
          replace q2 := (g.block _ (lt_of_block q2)).trans q2
          replace q3 := (g.block _ (lt_of_block q3)).trans q3
          replace bel := chain bel g
          clear g
          obtain ⟨q1c0, q1c1, q1c2⟩ := cells3 q1
          have q1l := lt_of_block q1
          obtain ⟨q2c0, q2c1, q2c2⟩ := cells3 q2
          have q2l := lt_of_block q2
          obtain ⟨q3c0, q3c1, q3c2⟩ := cells3 q3
          have q3l := lt_of_block q3
          go_wp2_with fail
          refine (M2 _).mono ?_
          rintro e w1 ⟨rfl, g⟩
          clear q1c0 q1c1 q1c2 q1l
          replace q1 := (g.block _ (lt_of_block q1)).trans q1
          clear q2c0 q2c1 q2c2 q2l
          replace q2 := (g.block _ (lt_of_block q2)).trans q2
          clear q3c0 q3c1 q3c2 q3l
          replace q3 := (g.block _ (lt_of_block q3)).trans q3
          replace bel := chain bel g
          clear g
          obtain ⟨q1c0, q1c1, q1c2⟩ := cells3 q1
          have q1l := lt_of_block q1
          obtain ⟨q2c0, q2c1, q2c2⟩ := cells3 q2
          have q2l := lt_of_block q2
          obtain ⟨q3c0, q3c1, q3c2⟩ := cells3 q3
          have q3l := lt_of_block q3
          go_wp2_with fail
          refine (O _).mono ?_
          rintro e w2 ⟨rfl, g⟩
          clear q1c0 q1c1 q1c2 q1l
          replace q1 := (g.block _ (lt_of_block q1)).trans q1
          clear q2c0 q2c1 q2c2 q2l
          replace q2 := (g.block _ (lt_of_block q2)).trans q2
          clear q3c0 q3c1 q3c2 q3l
          replace q3 := (g.block _ (lt_of_block q3)).trans q3
          replace bel := chain bel g
          clear g
          obtain ⟨q1c0, q1c1, q1c2⟩ := cells3 q1
          have q1l := lt_of_block q1
          obtain ⟨q2c0, q2c1, q2c2⟩ := cells3 q2
          have q2l := lt_of_block q2
          obtain ⟨q3c0, q3c1, q3c2⟩ := cells3 q3
          have q3l := lt_of_block q3
          go_wp2_with fail
          refine (Bo (false) _).mono ?_
          rintro e w3 ⟨rfl, g⟩
          clear q1c0 q1c1 q1c2 q1l
          replace q1 := (g.block _ (lt_of_block q1)).trans q1
          clear q2c0 q2c1 q2c2 q2l
          replace q2 := (g.block _ (lt_of_block q2)).trans q2
          clear q3c0 q3c1 q3c2 q3l
          replace q3 := (g.block _ (lt_of_block q3)).trans q3
          replace bel := chain bel g
          clear g
          obtain ⟨q1c0, q1c1, q1c2⟩ := cells3 q1
          have q1l := lt_of_block q1
          obtain ⟨q2c0, q2c1, q2c2⟩ := cells3 q2
          have q2l := lt_of_block q2
          obtain ⟨q3c0, q3c1, q3c2⟩ := cells3 q3
          have q3l := lt_of_block q3
          have fz := frozen3 q3
          go_wp2_with fail
          obtain ⟨r0, r1, r2, bel2⟩ := set3 (.int .i64 1) (.int .i64 (n01 (false))) (.string (str [])) q3 bel (by omega)
          refine bodyPost_ret (v := .tuple #[.agg #[.int .i64 1, .int .i64 (n01 (false)), .string (str [])], .int .i64 0]) (by simp [results, Try.results31, go_sem, r0, r1, r2, str_e]) rfl ⟨?_, bel2⟩
          rw [HR.out]; rfl
      · rw [if_neg (by omega), if_neg (by omega)] at hR
        rcases r with rfl | rfl | rfl
        · rw [show cmpB 1 (-1) = true from by decide] at hR
          have HR := Lib.hid hR
          clear hR
          go_enter Try.func31, Try.ntmps31
          go_wp2_with fail
          refine (M1 _).mono ?_
          rintro e w1 ⟨rfl, g⟩
          replace q1 := (g.block _ (lt_of_block q1)).trans q1
          replace q2 := (g.block _ (lt_of_block q2)).trans q2
          replace q3 := (g.block _ (lt_of_block q3)).trans q3
          replace bel := chain bel g
          clear g
          obtain ⟨q1c0, q1c1, q1c2⟩ := cells3 q1
          have q1l := lt_of_block q1
          obtain ⟨q2c0, q2c1, q2c2⟩ := cells3 q2
          have q2l := lt_of_block q2
          obtain ⟨q3c0, q3c1, q3c2⟩ := cells3 q3
          have q3l := lt_of_block q3
          go_wp2_with fail
          refine (M2 _).mono ?_
          rintro e w1 ⟨rfl, g⟩
          clear q1c0 q1c1 q1c2 q1l
          replace q1 := (g.block _ (lt_of_block q1)).trans q1
          clear q2c0 q2c1 q2c2 q2l
          replace q2 := (g.block _ (lt_of_block q2)).trans q2
          clear q3c0 q3c1 q3c2 q3l
          replace q3 := (g.block _ (lt_of_block q3)).trans q3
          replace bel := chain bel g
          clear g
          obtain ⟨q1c0, q1c1, q1c2⟩ := cells3 q1
          have q1l := lt_of_block q1
          obtain ⟨q2c0, q2c1, q2c2⟩ := cells3 q2
          have q2l := lt_of_block q2
          obtain ⟨q3c0, q3c1, q3c2⟩ := cells3 q3
          have q3l := lt_of_block q3
          go_wp2_with fail
          refine (O _).mono ?_
          rintro e w2 ⟨rfl, g⟩
          clear q1c0 q1c1 q1c2 q1l
          replace q1 := (g.block _ (lt_of_block q1)).trans q1
          clear q2c0 q2c1 q2c2 q2l
          replace q2 := (g.block _ (lt_of_block q2)).trans q2
          clear q3c0 q3c1 q3c2 q3l
          replace q3 := (g.block _ (lt_of_block q3)).trans q3
          replace bel := chain bel g
          clear g
          obtain ⟨q1c0, q1c1, q1c2⟩ := cells3 q1
          have q1l := lt_of_block q1
          obtain ⟨q2c0, q2c1, q2c2⟩ := cells3 q2
          have q2l := lt_of_block q2
          obtain ⟨q3c0, q3c1, q3c2⟩ := cells3 q3
          have q3l := lt_of_block q3
          go_wp2_with fail
          refine (Bo (true) _).mono ?_
          rintro e w3 ⟨rfl, g⟩
          clear q1c0 q1c1 q1c2 q1l
          replace q1 := (g.block _ (lt_of_block q1)).trans q1
          clear q2c0 q2c1 q2c2 q2l
          replace q2 := (g.block _ (lt_of_block q2)).trans q2
          clear q3c0 q3c1 q3c2 q3l
          replace q3 := (g.block _ (lt_of_block q3)).trans q3
          replace bel := chain bel g
          clear g
          obtain ⟨q1c0, q1c1, q1c2⟩ := cells3 q1
          have q1l := lt_of_block q1
          obtain ⟨q2c0, q2c1, q2c2⟩ := cells3 q2
          have q2l := lt_of_block q2
          obtain ⟨q3c0, q3c1, q3c2⟩ := cells3 q3
          have q3l := lt_of_block q3
          have fz := frozen3 q3
          go_wp2_with fail
          obtain ⟨r0, r1, r2, bel2⟩ := set3 (.int .i64 1) (.int .i64 (n01 (true))) (.string (str [])) q3 bel (by omega)
          refine bodyPost_ret (v := .tuple #[.agg #[.int .i64 1, .int .i64 (n01 (true)), .string (str [])], .int .i64 0]) (by simp [results, Try.results31, go_sem, r0, r1, r2, str_e]) rfl ⟨?_, bel2⟩
          rw [HR.out]; rfl
        · rw [show cmpB 1 (0) = false from by decide] at hR
          have HR := Lib.hid hR
          clear hR
          go_enter Try.func31, Try.ntmps31
          go_wp2_with fail
          refine (M1 _).mono ?_
          rintro e w1 ⟨rfl, g⟩
          replace q1 := (g.block _ (lt_of_block q1)).trans q1
          replace q2 := (g.block _ (lt_of_block q2)).trans q2
          replace q3 := (g.block _ (lt_of_block q3)).trans q3
          replace bel := chain bel g
          clear g
          obtain ⟨q1c0, q1c1, q1c2⟩ := cells3 q1
          have q1l := lt_of_block q1
          obtain ⟨q2c0, q2c1, q2c2⟩ := cells3 q2
          have q2l := lt_of_block q2
          obtain ⟨q3c0, q3c1, q3c2⟩ := cells3 q3
          have q3l := lt_of_block q3
          go_wp2_with fail
          refine (M2 _).mono ?_
          rintro e w1 ⟨rfl, g⟩
          clear q1c0 q1c1 q1c2 q1l
          replace q1 := (g.block _ (lt_of_block q1)).trans q1
          clear q2c0 q2c1 q2c2 q2l
          replace q2 := (g.block _ (lt_of_block q2)).trans q2
          clear q3c0 q3c1 q3c2 q3l
          replace q3 := (g.block _ (lt_of_block q3)).trans q3
          replace bel := chain bel g
          clear g
          obtain ⟨q1c0, q1c1, q1c2⟩ := cells3 q1
          have q1l := lt_of_block q1
          obtain ⟨q2c0, q2c1, q2c2⟩ := cells3 q2
          have q2l := lt_of_block q2
          obtain ⟨q3c0, q3c1, q3c2⟩ := cells3 q3
          have q3l := lt_of_block q3
          go_wp2_with fail
          refine (O _).mono ?_
          rintro e w2 ⟨rfl, g⟩
          clear q1c0 q1c1 q1c2 q1l
          replace q1 := (g.block _ (lt_of_block q1)).trans q1
          clear q2c0 q2c1 q2c2 q2l
          replace q2 := (g.block _ (lt_of_block q2)).trans q2
          clear q3c0 q3c1 q3c2 q3l
          replace q3 := (g.block _ (lt_of_block q3)).trans q3
          replace bel := chain bel g
          clear g
          obtain ⟨q1c0, q1c1, q1c2⟩ := cells3 q1
          have q1l := lt_of_block q1
          obtain ⟨q2c0, q2c1, q2c2⟩ := cells3 q2
          have q2l := lt_of_block q2
          obtain ⟨q3c0, q3c1, q3c2⟩ := cells3 q3
          have q3l := lt_of_block q3
          go_wp2_with fail
          refine (Bo (false) _).mono ?_
          rintro e w3 ⟨rfl, g⟩
          clear q1c0 q1c1 q1c2 q1l
          replace q1 := (g.block _ (lt_of_block q1)).trans q1
          clear q2c0 q2c1 q2c2 q2l
          replace q2 := (g.block _ (lt_of_block q2)).trans q2
          clear q3c0 q3c1 q3c2 q3l
          replace q3 := (g.block _ (lt_of_block q3)).trans q3
          replace bel := chain bel g
          clear g
          obtain ⟨q1c0, q1c1, q1c2⟩ := cells3 q1
          have q1l := lt_of_block q1
          obtain ⟨q2c0, q2c1, q2c2⟩ := cells3 q2
          have q2l := lt_of_block q2
          obtain ⟨q3c0, q3c1, q3c2⟩ := cells3 q3
          have q3l := lt_of_block q3
          have fz := frozen3 q3
          go_wp2_with fail
          obtain ⟨r0, r1, r2, bel2⟩ := set3 (.int .i64 1) (.int .i64 (n01 (false))) (.string (str [])) q3 bel (by omega)
          refine bodyPost_ret (v := .tuple #[.agg #[.int .i64 1, .int .i64 (n01 (false)), .string (str [])], .int .i64 0]) (by simp [results, Try.results31, go_sem, r0, r1, r2, str_e]) rfl ⟨?_, bel2⟩
          rw [HR.out]; rfl
        · rw [show cmpB 1 (1) = true from by decide] at hR
          have HR := Lib.hid hR
          clear hR
          go_enter Try.func31, Try.ntmps31
          go_wp2_with fail
          refine (M1 _).mono ?_
          rintro e w1 ⟨rfl, g⟩
          replace q1 := (g.block _ (lt_of_block q1)).trans q1
          replace q2 := (g.block _ (lt_of_block q2)).trans q2
          replace q3 := (g.block _ (lt_of_block q3)).trans q3
          replace bel := chain bel g
          clear g
          obtain ⟨q1c0, q1c1, q1c2⟩ := cells3 q1
          have q1l := lt_of_block q1
          obtain ⟨q2c0, q2c1, q2c2⟩ := cells3 q2
          have q2l := lt_of_block q2
          obtain ⟨q3c0, q3c1, q3c2⟩ := cells3 q3
          have q3l := lt_of_block q3
          go_wp2_with fail
          refine (M2 _).mono ?_
          rintro e w1 ⟨rfl, g⟩
          clear q1c0 q1c1 q1c2 q1l
          replace q1 := (g.block _ (lt_of_block q1)).trans q1
          clear q2c0 q2c1 q2c2 q2l
          replace q2 := (g.block _ (lt_of_block q2)).trans q2
          clear q3c0 q3c1 q3c2 q3l
          replace q3 := (g.block _ (lt_of_block q3)).trans q3
          replace bel := chain bel g
          clear g
          obtain ⟨q1c0, q1c1, q1c2⟩ := cells3 q1
          have q1l := lt_of_block q1
          obtain ⟨q2c0, q2c1, q2c2⟩ := cells3 q2
          have q2l := lt_of_block q2
          obtain ⟨q3c0, q3c1, q3c2⟩ := cells3 q3
          have q3l := lt_of_block q3
          go_wp2_with fail
          refine (O _).mono ?_
          rintro e w2 ⟨rfl, g⟩
          clear q1c0 q1c1 q1c2 q1l
          replace q1 := (g.block _ (lt_of_block q1)).trans q1
          clear q2c0 q2c1 q2c2 q2l
          replace q2 := (g.block _ (lt_of_block q2)).trans q2
          clear q3c0 q3c1 q3c2 q3l
          replace q3 := (g.block _ (lt_of_block q3)).trans q3
          replace bel := chain bel g
          clear g
          obtain ⟨q1c0, q1c1, q1c2⟩ := cells3 q1
          have q1l := lt_of_block q1
          obtain ⟨q2c0, q2c1, q2c2⟩ := cells3 q2
          have q2l := lt_of_block q2
          obtain ⟨q3c0, q3c1, q3c2⟩ := cells3 q3
          have q3l := lt_of_block q3
          go_wp2_with fail
          refine (Bo (true) _).mono ?_
          rintro e w3 ⟨rfl, g⟩
          clear q1c0 q1c1 q1c2 q1l
          replace q1 := (g.block _ (lt_of_block q1)).trans q1
          clear q2c0 q2c1 q2c2 q2l
          replace q2 := (g.block _ (lt_of_block q2)).trans q2
          clear q3c0 q3c1 q3c2 q3l
          replace q3 := (g.block _ (lt_of_block q3)).trans q3
          replace bel := chain bel g
          clear g
          obtain ⟨q1c0, q1c1, q1c2⟩ := cells3 q1
          have q1l := lt_of_block q1
          obtain ⟨q2c0, q2c1, q2c2⟩ := cells3 q2
          have q2l := lt_of_block q2
          obtain ⟨q3c0, q3c1, q3c2⟩ := cells3 q3
          have q3l := lt_of_block q3
          have fz := frozen3 q3
          go_wp2_with fail
          obtain ⟨r0, r1, r2, bel2⟩ := set3 (.int .i64 1) (.int .i64 (n01 (true))) (.string (str [])) q3 bel (by omega)
          refine bodyPost_ret (v := .tuple #[.agg #[.int .i64 1, .int .i64 (n01 (true)), .string (str [])], .int .i64 0]) (by simp [results, Try.results31, go_sem, r0, r1, r2, str_e]) rfl ⟨?_, bel2⟩
          rw [HR.out]; rfl
      · rw [if_neg (by omega)] at hR
        by_cases hk : k = k'
        · rw [if_neg (by intro h; exact h.2 hk)] at hR
          have hk2 : (k != k') = false := by simpa using hk
          clear hk
          rcases r with rfl | rfl | rfl
          · rw [show cmpB 2 (-1) = true from by decide] at hR
            have HR := Lib.hid hR
            clear hR
            go_enter Try.func31, Try.ntmps31
            go_wp2_with fail
            refine (M1 _).mono ?_
            rintro e w1 ⟨rfl, g⟩
            replace q1 := (g.block _ (lt_of_block q1)).trans q1
            replace q2 := (g.block _ (lt_of_block q2)).trans q2
            replace q3 := (g.block _ (lt_of_block q3)).trans q3
            replace bel := chain bel g
            clear g
            obtain ⟨q1c0, q1c1, q1c2⟩ := cells3 q1
            have q1l := lt_of_block q1
            obtain ⟨q2c0, q2c1, q2c2⟩ := cells3 q2
            have q2l := lt_of_block q2
            obtain ⟨q3c0, q3c1, q3c2⟩ := cells3 q3
            have q3l := lt_of_block q3
            go_wp2_with fail
            refine (M2 _).mono ?_
            rintro e w1 ⟨rfl, g⟩
            clear q1c0 q1c1 q1c2 q1l
            replace q1 := (g.block _ (lt_of_block q1)).trans q1
            clear q2c0 q2c1 q2c2 q2l
            replace q2 := (g.block _ (lt_of_block q2)).trans q2
            clear q3c0 q3c1 q3c2 q3l
            replace q3 := (g.block _ (lt_of_block q3)).trans q3
            replace bel := chain bel g
            clear g
            obtain ⟨q1c0, q1c1, q1c2⟩ := cells3 q1
            have q1l := lt_of_block q1
            obtain ⟨q2c0, q2c1, q2c2⟩ := cells3 q2
            have q2l := lt_of_block q2
            obtain ⟨q3c0, q3c1, q3c2⟩ := cells3 q3
            have q3l := lt_of_block q3
            go_wp2_with fail
            refine (O _).mono ?_
            rintro e w2 ⟨rfl, g⟩
            clear q1c0 q1c1 q1c2 q1l
            replace q1 := (g.block _ (lt_of_block q1)).trans q1
            clear q2c0 q2c1 q2c2 q2l
            replace q2 := (g.block _ (lt_of_block q2)).trans q2
            clear q3c0 q3c1 q3c2 q3l
            replace q3 := (g.block _ (lt_of_block q3)).trans q3
            replace bel := chain bel g
            clear g
            obtain ⟨q1c0, q1c1, q1c2⟩ := cells3 q1
            have q1l := lt_of_block q1
            obtain ⟨q2c0, q2c1, q2c2⟩ := cells3 q2
            have q2l := lt_of_block q2
            obtain ⟨q3c0, q3c1, q3c2⟩ := cells3 q3
            have q3l := lt_of_block q3
            go_wp2_with fail
            refine (Bo (true) _).mono ?_
            rintro e w3 ⟨rfl, g⟩
            clear q1c0 q1c1 q1c2 q1l
            replace q1 := (g.block _ (lt_of_block q1)).trans q1
            clear q2c0 q2c1 q2c2 q2l
            replace q2 := (g.block _ (lt_of_block q2)).trans q2
            clear q3c0 q3c1 q3c2 q3l
            replace q3 := (g.block _ (lt_of_block q3)).trans q3
            replace bel := chain bel g
            clear g
            obtain ⟨q1c0, q1c1, q1c2⟩ := cells3 q1
            have q1l := lt_of_block q1
            obtain ⟨q2c0, q2c1, q2c2⟩ := cells3 q2
            have q2l := lt_of_block q2
            obtain ⟨q3c0, q3c1, q3c2⟩ := cells3 q3
            have q3l := lt_of_block q3
            have fz := frozen3 q3
            go_wp2_with fail
            obtain ⟨r0, r1, r2, bel2⟩ := set3 (.int .i64 1) (.int .i64 (n01 (true))) (.string (str [])) q3 bel (by omega)
            refine bodyPost_ret (v := .tuple #[.agg #[.int .i64 1, .int .i64 (n01 (true)), .string (str [])], .int .i64 0]) (by simp [results, Try.results31, go_sem, r0, r1, r2, str_e]) rfl ⟨?_, bel2⟩
            rw [HR.out]; rfl
          · rw [show cmpB 2 (0) = false from by decide] at hR
            have HR := Lib.hid hR
            clear hR
            go_enter Try.func31, Try.ntmps31
            go_wp2_with fail
            refine (M1 _).mono ?_
            rintro e w1 ⟨rfl, g⟩
            replace q1 := (g.block _ (lt_of_block q1)).trans q1
            replace q2 := (g.block _ (lt_of_block q2)).trans q2
            replace q3 := (g.block _ (lt_of_block q3)).trans q3
            replace bel := chain bel g
            clear g
            obtain ⟨q1c0, q1c1, q1c2⟩ := cells3 q1
            have q1l := lt_of_block q1
            obtain ⟨q2c0, q2c1, q2c2⟩ := cells3 q2
            have q2l := lt_of_block q2
            obtain ⟨q3c0, q3c1, q3c2⟩ := cells3 q3
            have q3l := lt_of_block q3
            go_wp2_with fail
            refine (M2 _).mono ?_
            rintro e w1 ⟨rfl, g⟩
            clear q1c0 q1c1 q1c2 q1l
            replace q1 := (g.block _ (lt_of_block q1)).trans q1
            clear q2c0 q2c1 q2c2 q2l
            replace q2 := (g.block _ (lt_of_block q2)).trans q2
            clear q3c0 q3c1 q3c2 q3l
            replace q3 := (g.block _ (lt_of_block q3)).trans q3
            replace bel := chain bel g
            clear g
            obtain ⟨q1c0, q1c1, q1c2⟩ := cells3 q1
            have q1l := lt_of_block q1
            obtain ⟨q2c0, q2c1, q2c2⟩ := cells3 q2
            have q2l := lt_of_block q2
            obtain ⟨q3c0, q3c1, q3c2⟩ := cells3 q3
            have q3l := lt_of_block q3
            go_wp2_with fail
            refine (O _).mono ?_
            rintro e w2 ⟨rfl, g⟩
            clear q1c0 q1c1 q1c2 q1l
            replace q1 := (g.block _ (lt_of_block q1)).trans q1
            clear q2c0 q2c1 q2c2 q2l
            replace q2 := (g.block _ (lt_of_block q2)).trans q2
            clear q3c0 q3c1 q3c2 q3l
            replace q3 := (g.block _ (lt_of_block q3)).trans q3
            replace bel := chain bel g
            clear g
            obtain ⟨q1c0, q1c1, q1c2⟩ := cells3 q1
            have q1l := lt_of_block q1
            obtain ⟨q2c0, q2c1, q2c2⟩ := cells3 q2
            have q2l := lt_of_block q2
            obtain ⟨q3c0, q3c1, q3c2⟩ := cells3 q3
            have q3l := lt_of_block q3
            go_wp2_with fail
            refine (Bo (false) _).mono ?_
            rintro e w3 ⟨rfl, g⟩
            clear q1c0 q1c1 q1c2 q1l
            replace q1 := (g.block _ (lt_of_block q1)).trans q1
            clear q2c0 q2c1 q2c2 q2l
            replace q2 := (g.block _ (lt_of_block q2)).trans q2
            clear q3c0 q3c1 q3c2 q3l
            replace q3 := (g.block _ (lt_of_block q3)).trans q3
            replace bel := chain bel g
            clear g
            obtain ⟨q1c0, q1c1, q1c2⟩ := cells3 q1
            have q1l := lt_of_block q1
            obtain ⟨q2c0, q2c1, q2c2⟩ := cells3 q2
            have q2l := lt_of_block q2
            obtain ⟨q3c0, q3c1, q3c2⟩ := cells3 q3
            have q3l := lt_of_block q3
            have fz := frozen3 q3
            go_wp2_with fail
            obtain ⟨r0, r1, r2, bel2⟩ := set3 (.int .i64 1) (.int .i64 (n01 (false))) (.string (str [])) q3 bel (by omega)
            refine bodyPost_ret (v := .tuple #[.agg #[.int .i64 1, .int .i64 (n01 (false)), .string (str [])], .int .i64 0]) (by simp [results, Try.results31, go_sem, r0, r1, r2, str_e]) rfl ⟨?_, bel2⟩
            rw [HR.out]; rfl
          · rw [show cmpB 2 (1) = false from by decide] at hR
            have HR := Lib.hid hR
            clear hR
            go_enter Try.func31, Try.ntmps31
            go_wp2_with fail
            refine (M1 _).mono ?_
            rintro e w1 ⟨rfl, g⟩
            replace q1 := (g.block _ (lt_of_block q1)).trans q1
            replace q2 := (g.block _ (lt_of_block q2)).trans q2
            replace q3 := (g.block _ (lt_of_block q3)).trans q3
            replace bel := chain bel g
            clear g
            obtain ⟨q1c0, q1c1, q1c2⟩ := cells3 q1
            have q1l := lt_of_block q1
            obtain ⟨q2c0, q2c1, q2c2⟩ := cells3 q2
            have q2l := lt_of_block q2
            obtain ⟨q3c0, q3c1, q3c2⟩ := cells3 q3
            have q3l := lt_of_block q3
            go_wp2_with fail
            refine (M2 _).mono ?_
            rintro e w1 ⟨rfl, g⟩
            clear q1c0 q1c1 q1c2 q1l
            replace q1 := (g.block _ (lt_of_block q1)).trans q1
            clear q2c0 q2c1 q2c2 q2l
            replace q2 := (g.block _ (lt_of_block q2)).trans q2
            clear q3c0 q3c1 q3c2 q3l
            replace q3 := (g.block _ (lt_of_block q3)).trans q3
            replace bel := chain bel g
            clear g
            obtain ⟨q1c0, q1c1, q1c2⟩ := cells3 q1
            have q1l := lt_of_block q1
            obtain ⟨q2c0, q2c1, q2c2⟩ := cells3 q2
            have q2l := lt_of_block q2
            obtain ⟨q3c0, q3c1, q3c2⟩ := cells3 q3
            have q3l := lt_of_block q3
            go_wp2_with fail
            refine (O _).mono ?_
            rintro e w2 ⟨rfl, g⟩
            clear q1c0 q1c1 q1c2 q1l
            replace q1 := (g.block _ (lt_of_block q1)).trans q1
            clear q2c0 q2c1 q2c2 q2l
            replace q2 := (g.block _ (lt_of_block q2)).trans q2
            clear q3c0 q3c1 q3c2 q3l
            replace q3 := (g.block _ (lt_of_block q3)).trans q3
            replace bel := chain bel g
            clear g
            obtain ⟨q1c0, q1c1, q1c2⟩ := cells3 q1
            have q1l := lt_of_block q1
            obtain ⟨q2c0, q2c1, q2c2⟩ := cells3 q2
            have q2l := lt_of_block q2
            obtain ⟨q3c0, q3c1, q3c2⟩ := cells3 q3
            have q3l := lt_of_block q3
            go_wp2_with fail
            refine (Bo (false) _).mono ?_
            rintro e w3 ⟨rfl, g⟩
            clear q1c0 q1c1 q1c2 q1l
            replace q1 := (g.block _ (lt_of_block q1)).trans q1
            clear q2c0 q2c1 q2c2 q2l
            replace q2 := (g.block _ (lt_of_block q2)).trans q2
            clear q3c0 q3c1 q3c2 q3l
            replace q3 := (g.block _ (lt_of_block q3)).trans q3
            replace bel := chain bel g
            clear g
            obtain ⟨q1c0, q1c1, q1c2⟩ := cells3 q1
            have q1l := lt_of_block q1
            obtain ⟨q2c0, q2c1, q2c2⟩ := cells3 q2
            have q2l := lt_of_block q2
            obtain ⟨q3c0, q3c1, q3c2⟩ := cells3 q3
            have q3l := lt_of_block q3
            have fz := frozen3 q3
            go_wp2_with fail
            obtain ⟨r0, r1, r2, bel2⟩ := set3 (.int .i64 1) (.int .i64 (n01 (false))) (.string (str [])) q3 bel (by omega)
            refine bodyPost_ret (v := .tuple #[.agg #[.int .i64 1, .int .i64 (n01 (false)), .string (str [])], .int .i64 0]) (by simp [results, Try.results31, go_sem, r0, r1, r2, str_e]) rfl ⟨?_, bel2⟩
            rw [HR.out]; rfl
        · rw [if_pos ⟨by decide, hk⟩] at hR
          have hk2 : (k != k') = true := by simpa using hk
          clear hk r
          have HR := Lib.hid hR
          clear hR
          go_enter Try.func31, Try.ntmps31
          go_wp2_with fail
          refine (M1 _).mono ?_
          rintro e w1 ⟨rfl, g⟩
          replace q1 := (g.block _ (lt_of_block q1)).trans q1
          replace q2 := (g.block _ (lt_of_block q2)).trans q2
          replace q3 := (g.block _ (lt_of_block q3)).trans q3
          replace bel := chain bel g
          clear g
          obtain ⟨q1c0, q1c1, q1c2⟩ := cells3 q1
          have q1l := lt_of_block q1
          obtain ⟨q2c0, q2c1, q2c2⟩ := cells3 q2
          have q2l := lt_of_block q2
          obtain ⟨q3c0, q3c1, q3c2⟩ := cells3 q3
          have q3l := lt_of_block q3
          go_wp2_with fail
          refine (M2 _).mono ?_
          rintro e w1 ⟨rfl, g⟩
          clear q1c0 q1c1 q1c2 q1l
          replace q1 := (g.block _ (lt_of_block q1)).trans q1
          clear q2c0 q2c1 q2c2 q2l
          replace q2 := (g.block _ (lt_of_block q2)).trans q2
          clear q3c0 q3c1 q3c2 q3l
          replace q3 := (g.block _ (lt_of_block q3)).trans q3
          replace bel := chain bel g
          clear g
          obtain ⟨q1c0, q1c1, q1c2⟩ := cells3 q1
          have q1l := lt_of_block q1
          obtain ⟨q2c0, q2c1, q2c2⟩ := cells3 q2
          have q2l := lt_of_block q2
          obtain ⟨q3c0, q3c1, q3c2⟩ := cells3 q3
          have q3l := lt_of_block q3
          have fz := frozen3 q3
          go_wp2_with fail
          obtain ⟨r0, r1, r2, bel2⟩ := set3 (.int .i64 0) (.int .i64 0) (.string (str [])) q3 bel (by omega)
          refine bodyPost_ret (v := .tuple #[.agg #[.int .i64 0, .int .i64 0, .string (str [])], .int .i64 10]) (by simp [results, Try.results31, go_sem, r0, r1, r2, str_e]) rfl ⟨?_, bel2⟩
          rw [HR.out]; rfl
      · rw [if_neg (by omega)] at hR
        by_cases hk : k = k'
        · rw [if_neg (by intro h; exact h.2 hk)] at hR
          have hk2 : (k != k') = false := by simpa using hk
          clear hk
          rcases r with rfl | rfl | rfl
          · rw [show cmpB 3 (-1) = true from by decide] at hR
            have HR := Lib.hid hR
            clear hR
            go_enter Try.func31, Try.ntmps31
            go_wp2_with fail
            refine (M1 _).mono ?_
            rintro e w1 ⟨rfl, g⟩
            replace q1 := (g.block _ (lt_of_block q1)).trans q1
            replace q2 := (g.block _ (lt_of_block q2)).trans q2
            replace q3 := (g.block _ (lt_of_block q3)).trans q3
            replace bel := chain bel g
            clear g
            obtain ⟨q1c0, q1c1, q1c2⟩ := cells3 q1
            have q1l := lt_of_block q1
            obtain ⟨q2c0, q2c1, q2c2⟩ := cells3 q2
            have q2l := lt_of_block q2
            obtain ⟨q3c0, q3c1, q3c2⟩ := cells3 q3
            have q3l := lt_of_block q3
            go_wp2_with fail
            refine (M2 _).mono ?_
            rintro e w1 ⟨rfl, g⟩
            clear q1c0 q1c1 q1c2 q1l
            replace q1 := (g.block _ (lt_of_block q1)).trans q1
            clear q2c0 q2c1 q2c2 q2l
            replace q2 := (g.block _ (lt_of_block q2)).trans q2
            clear q3c0 q3c1 q3c2 q3l
            replace q3 := (g.block _ (lt_of_block q3)).trans q3
            replace bel := chain bel g
            clear g
            obtain ⟨q1c0, q1c1, q1c2⟩ := cells3 q1
            have q1l := lt_of_block q1
            obtain ⟨q2c0, q2c1, q2c2⟩ := cells3 q2
            have q2l := lt_of_block q2
            obtain ⟨q3c0, q3c1, q3c2⟩ := cells3 q3
            have q3l := lt_of_block q3
            go_wp2_with fail
            refine (O _).mono ?_
            rintro e w2 ⟨rfl, g⟩
            clear q1c0 q1c1 q1c2 q1l
            replace q1 := (g.block _ (lt_of_block q1)).trans q1
            clear q2c0 q2c1 q2c2 q2l
            replace q2 := (g.block _ (lt_of_block q2)).trans q2
            clear q3c0 q3c1 q3c2 q3l
            replace q3 := (g.block _ (lt_of_block q3)).trans q3
            replace bel := chain bel g
            clear g
            obtain ⟨q1c0, q1c1, q1c2⟩ := cells3 q1
            have q1l := lt_of_block q1
            obtain ⟨q2c0, q2c1, q2c2⟩ := cells3 q2
            have q2l := lt_of_block q2
            obtain ⟨q3c0, q3c1, q3c2⟩ := cells3 q3
            have q3l := lt_of_block q3
            go_wp2_with fail
            refine (Bo (true) _).mono ?_
            rintro e w3 ⟨rfl, g⟩
            clear q1c0 q1c1 q1c2 q1l
            replace q1 := (g.block _ (lt_of_block q1)).trans q1
            clear q2c0 q2c1 q2c2 q2l
            replace q2 := (g.block _ (lt_of_block q2)).trans q2
            clear q3c0 q3c1 q3c2 q3l
            replace q3 := (g.block _ (lt_of_block q3)).trans q3
            replace bel := chain bel g
            clear g
            obtain ⟨q1c0, q1c1, q1c2⟩ := cells3 q1
            have q1l := lt_of_block q1
            obtain ⟨q2c0, q2c1, q2c2⟩ := cells3 q2
            have q2l := lt_of_block q2
            obtain ⟨q3c0, q3c1, q3c2⟩ := cells3 q3
            have q3l := lt_of_block q3
            have fz := frozen3 q3
            go_wp2_with fail
            obtain ⟨r0, r1, r2, bel2⟩ := set3 (.int .i64 1) (.int .i64 (n01 (true))) (.string (str [])) q3 bel (by omega)
            refine bodyPost_ret (v := .tuple #[.agg #[.int .i64 1, .int .i64 (n01 (true)), .string (str [])], .int .i64 0]) (by simp [results, Try.results31, go_sem, r0, r1, r2, str_e]) rfl ⟨?_, bel2⟩
            rw [HR.out]; rfl
          · rw [show cmpB 3 (0) = true from by decide] at hR
            have HR := Lib.hid hR
            clear hR
            go_enter Try.func31, Try.ntmps31
            go_wp2_with fail
            refine (M1 _).mono ?_
            rintro e w1 ⟨rfl, g⟩
            replace q1 := (g.block _ (lt_of_block q1)).trans q1
            replace q2 := (g.block _ (lt_of_block q2)).trans q2
            replace q3 := (g.block _ (lt_of_block q3)).trans q3
            replace bel := chain bel g
            clear g
            obtain ⟨q1c0, q1c1, q1c2⟩ := cells3 q1
            have q1l := lt_of_block q1
            obtain ⟨q2c0, q2c1, q2c2⟩ := cells3 q2
            have q2l := lt_of_block q2
            obtain ⟨q3c0, q3c1, q3c2⟩ := cells3 q3
            have q3l := lt_of_block q3
            go_wp2_with fail
            refine (M2 _).mono ?_
            rintro e w1 ⟨rfl, g⟩
            clear q1c0 q1c1 q1c2 q1l
            replace q1 := (g.block _ (lt_of_block q1)).trans q1
            clear q2c0 q2c1 q2c2 q2l
            replace q2 := (g.block _ (lt_of_block q2)).trans q2
            clear q3c0 q3c1 q3c2 q3l
            replace q3 := (g.block _ (lt_of_block q3)).trans q3
            replace bel := chain bel g
            clear g
            obtain ⟨q1c0, q1c1, q1c2⟩ := cells3 q1
            have q1l := lt_of_block q1
            obtain ⟨q2c0, q2c1, q2c2⟩ := cells3 q2
            have q2l := lt_of_block q2
            obtain ⟨q3c0, q3c1, q3c2⟩ := cells3 q3
            have q3l := lt_of_block q3
            go_wp2_with fail
            refine (O _).mono ?_
            rintro e w2 ⟨rfl, g⟩
            clear q1c0 q1c1 q1c2 q1l
            replace q1 := (g.block _ (lt_of_block q1)).trans q1
            clear q2c0 q2c1 q2c2 q2l
            replace q2 := (g.block _ (lt_of_block q2)).trans q2
            clear q3c0 q3c1 q3c2 q3l
            replace q3 := (g.block _ (lt_of_block q3)).trans q3
            replace bel := chain bel g
            clear g
            obtain ⟨q1c0, q1c1, q1c2⟩ := cells3 q1
            have q1l := lt_of_block q1
            obtain ⟨q2c0, q2c1, q2c2⟩ := cells3 q2
            have q2l := lt_of_block q2
            obtain ⟨q3c0, q3c1, q3c2⟩ := cells3 q3
            have q3l := lt_of_block q3
            go_wp2_with fail
            refine (Bo (true) _).mono ?_
            rintro e w3 ⟨rfl, g⟩
            clear q1c0 q1c1 q1c2 q1l
            replace q1 := (g.block _ (lt_of_block q1)).trans q1
            clear q2c0 q2c1 q2c2 q2l
            replace q2 := (g.block _ (lt_of_block q2)).trans q2
            clear q3c0 q3c1 q3c2 q3l
            replace q3 := (g.block _ (lt_of_block q3)).trans q3
            replace bel := chain bel g
            clear g
            obtain ⟨q1c0, q1c1, q1c2⟩ := cells3 q1
            have q1l := lt_of_block q1
            obtain ⟨q2c0, q2c1, q2c2⟩ := cells3 q2
            have q2l := lt_of_block q2
            obtain ⟨q3c0, q3c1, q3c2⟩ := cells3 q3
            have q3l := lt_of_block q3
            have fz := frozen3 q3
            go_wp2_with fail
            obtain ⟨r0, r1, r2, bel2⟩ := set3 (.int .i64 1) (.int .i64 (n01 (true))) (.string (str [])) q3 bel (by omega)
            refine bodyPost_ret (v := .tuple #[.agg #[.int .i64 1, .int .i64 (n01 (true)), .string (str [])], .int .i64 0]) (by simp [results, Try.results31, go_sem, r0, r1, r2, str_e]) rfl ⟨?_, bel2⟩
            rw [HR.out]; rfl
          · rw [show cmpB 3 (1) = false from by decide] at hR
            have HR := Lib.hid hR
            clear hR
            go_enter Try.func31, Try.ntmps31
            go_wp2_with fail
            refine (M1 _).mono ?_
            rintro e w1 ⟨rfl, g⟩
            replace q1 := (g.block _ (lt_of_block q1)).trans q1
            replace q2 := (g.block _ (lt_of_block q2)).trans q2
            replace q3 := (g.block _ (lt_of_block q3)).trans q3
            replace bel := chain bel g
            clear g
            obtain ⟨q1c0, q1c1, q1c2⟩ := cells3 q1
            have q1l := lt_of_block q1
            obtain ⟨q2c0, q2c1, q2c2⟩ := cells3 q2
            have q2l := lt_of_block q2
            obtain ⟨q3c0, q3c1, q3c2⟩ := cells3 q3
            have q3l := lt_of_block q3
            go_wp2_with fail
            refine (M2 _).mono ?_
            rintro e w1 ⟨rfl, g⟩
            clear q1c0 q1c1 q1c2 q1l
            replace q1 := (g.block _ (lt_of_block q1)).trans q1
            clear q2c0 q2c1 q2c2 q2l
            replace q2 := (g.block _ (lt_of_block q2)).trans q2
            clear q3c0 q3c1 q3c2 q3l
            replace q3 := (g.block _ (lt_of_block q3)).trans q3
            replace bel := chain bel g
            clear g
            obtain ⟨q1c0, q1c1, q1c2⟩ := cells3 q1
            have q1l := lt_of_block q1
            obtain ⟨q2c0, q2c1, q2c2⟩ := cells3 q2
            have q2l := lt_of_block q2
            obtain ⟨q3c0, q3c1, q3c2⟩ := cells3 q3
            have q3l := lt_of_block q3
            go_wp2_with fail
            refine (O _).mono ?_
            rintro e w2 ⟨rfl, g⟩
            clear q1c0 q1c1 q1c2 q1l
            replace q1 := (g.block _ (lt_of_block q1)).trans q1
            clear q2c0 q2c1 q2c2 q2l
            replace q2 := (g.block _ (lt_of_block q2)).trans q2
            clear q3c0 q3c1 q3c2 q3l
            replace q3 := (g.block _ (lt_of_block q3)).trans q3
            replace bel := chain bel g
            clear g
            obtain ⟨q1c0, q1c1, q1c2⟩ := cells3 q1
            have q1l := lt_of_block q1
            obtain ⟨q2c0, q2c1, q2c2⟩ := cells3 q2
            have q2l := lt_of_block q2
            obtain ⟨q3c0, q3c1, q3c2⟩ := cells3 q3
            have q3l := lt_of_block q3
            go_wp2_with fail
            refine (Bo (false) _).mono ?_
            rintro e w3 ⟨rfl, g⟩
            clear q1c0 q1c1 q1c2 q1l
            replace q1 := (g.block _ (lt_of_block q1)).trans q1
            clear q2c0 q2c1 q2c2 q2l
            replace q2 := (g.block _ (lt_of_block q2)).trans q2
            clear q3c0 q3c1 q3c2 q3l
            replace q3 := (g.block _ (lt_of_block q3)).trans q3
            replace bel := chain bel g
            clear g
            obtain ⟨q1c0, q1c1, q1c2⟩ := cells3 q1
            have q1l := lt_of_block q1
            obtain ⟨q2c0, q2c1, q2c2⟩ := cells3 q2
            have q2l := lt_of_block q2
            obtain ⟨q3c0, q3c1, q3c2⟩ := cells3 q3
            have q3l := lt_of_block q3
            have fz := frozen3 q3
            go_wp2_with fail
            obtain ⟨r0, r1, r2, bel2⟩ := set3 (.int .i64 1) (.int .i64 (n01 (false))) (.string (str [])) q3 bel (by omega)
            refine bodyPost_ret (v := .tuple #[.agg #[.int .i64 1, .int .i64 (n01 (false)), .string (str [])], .int .i64 0]) (by simp [results, Try.results31, go_sem, r0, r1, r2, str_e]) rfl ⟨?_, bel2⟩
            rw [HR.out]; rfl
        · rw [if_pos ⟨by decide, hk⟩] at hR
          have hk2 : (k != k') = true := by simpa using hk
          clear hk r
          have HR := Lib.hid hR
          clear hR
          go_enter Try.func31, Try.ntmps31
          go_wp2_with fail
          refine (M1 _).mono ?_
          rintro e w1 ⟨rfl, g⟩
          replace q1 := (g.block _ (lt_of_block q1)).trans q1
          replace q2 := (g.block _ (lt_of_block q2)).trans q2
          replace q3 := (g.block _ (lt_of_block q3)).trans q3
          replace bel := chain bel g
          clear g
          obtain ⟨q1c0, q1c1, q1c2⟩ := cells3 q1
          have q1l := lt_of_block q1
          obtain ⟨q2c0, q2c1, q2c2⟩ := cells3 q2
          have q2l := lt_of_block q2
          obtain ⟨q3c0, q3c1, q3c2⟩ := cells3 q3
          have q3l := lt_of_block q3
          go_wp2_with fail
          refine (M2 _).mono ?_
          rintro e w1 ⟨rfl, g⟩
          clear q1c0 q1c1 q1c2 q1l
          replace q1 := (g.block _ (lt_of_block q1)).trans q1
          clear q2c0 q2c1 q2c2 q2l
          replace q2 := (g.block _ (lt_of_block q2)).trans q2
          clear q3c0 q3c1 q3c2 q3l
          replace q3 := (g.block _ (lt_of_block q3)).trans q3
          replace bel := chain bel g
          clear g
          obtain ⟨q1c0, q1c1, q1c2⟩ := cells3 q1
          have q1l := lt_of_block q1
          obtain ⟨q2c0, q2c1, q2c2⟩ := cells3 q2
          have q2l := lt_of_block q2
          obtain ⟨q3c0, q3c1, q3c2⟩ := cells3 q3
          have q3l := lt_of_block q3
          have fz := frozen3 q3
          go_wp2_with fail
          obtain ⟨r0, r1, r2, bel2⟩ := set3 (.int .i64 0) (.int .i64 0) (.string (str [])) q3 bel (by omega)
          refine bodyPost_ret (v := .tuple #[.agg #[.int .i64 0, .int .i64 0, .string (str [])], .int .i64 10]) (by simp [results, Try.results31, go_sem, r0, r1, r2, str_e]) rfl ⟨?_, bel2⟩
          rw [HR.out]; rfl
      · rw [if_neg (by omega)] at hR
        by_cases hk : k = k'
        · rw [if_neg (by intro h; exact h.2 hk)] at hR
          have hk2 : (k != k') = false := by simpa using hk
          clear hk
          rcases r with rfl | rfl | rfl
          · rw [show cmpB 4 (-1) = false from by decide] at hR
            have HR := Lib.hid hR
            clear hR
            go_enter Try.func31, Try.ntmps31
            go_wp2_with fail
            refine (M1 _).mono ?_
            rintro e w1 ⟨rfl, g⟩
            replace q1 := (g.block _ (lt_of_block q1)).trans q1
            replace q2 := (g.block _ (lt_of_block q2)).trans q2
            replace q3 := (g.block _ (lt_of_block q3)).trans q3
            replace bel := chain bel g
            clear g
            obtain ⟨q1c0, q1c1, q1c2⟩ := cells3 q1
            have q1l := lt_of_block q1
            obtain ⟨q2c0, q2c1, q2c2⟩ := cells3 q2
            have q2l := lt_of_block q2
            obtain ⟨q3c0, q3c1, q3c2⟩ := cells3 q3
            have q3l := lt_of_block q3
            go_wp2_with fail
            refine (M2 _).mono ?_
            rintro e w1 ⟨rfl, g⟩
            clear q1c0 q1c1 q1c2 q1l
            replace q1 := (g.block _ (lt_of_block q1)).trans q1
            clear q2c0 q2c1 q2c2 q2l
            replace q2 := (g.block _ (lt_of_block q2)).trans q2
            clear q3c0 q3c1 q3c2 q3l
            replace q3 := (g.block _ (lt_of_block q3)).trans q3
            replace bel := chain bel g
            clear g
            obtain ⟨q1c0, q1c1, q1c2⟩ := cells3 q1
            have q1l := lt_of_block q1
            obtain ⟨q2c0, q2c1, q2c2⟩ := cells3 q2
            have q2l := lt_of_block q2
            obtain ⟨q3c0, q3c1, q3c2⟩ := cells3 q3
            have q3l := lt_of_block q3
            go_wp2_with fail
            refine (O _).mono ?_
            rintro e w2 ⟨rfl, g⟩
            clear q1c0 q1c1 q1c2 q1l
            replace q1 := (g.block _ (lt_of_block q1)).trans q1
            clear q2c0 q2c1 q2c2 q2l
            replace q2 := (g.block _ (lt_of_block q2)).trans q2
            clear q3c0 q3c1 q3c2 q3l
            replace q3 := (g.block _ (lt_of_block q3)).trans q3
            replace bel := chain bel g
            clear g
            obtain ⟨q1c0, q1c1, q1c2⟩ := cells3 q1
            have q1l := lt_of_block q1
            obtain ⟨q2c0, q2c1, q2c2⟩ := cells3 q2
            have q2l := lt_of_block q2
            obtain ⟨q3c0, q3c1, q3c2⟩ := cells3 q3
            have q3l := lt_of_block q3
            go_wp2_with fail
            refine (Bo (false) _).mono ?_
            rintro e w3 ⟨rfl, g⟩
            clear q1c0 q1c1 q1c2 q1l
            replace q1 := (g.block _ (lt_of_block q1)).trans q1
            clear q2c0 q2c1 q2c2 q2l
            replace q2 := (g.block _ (lt_of_block q2)).trans q2
            clear q3c0 q3c1 q3c2 q3l
            replace q3 := (g.block _ (lt_of_block q3)).trans q3
            replace bel := chain bel g
            clear g
            obtain ⟨q1c0, q1c1, q1c2⟩ := cells3 q1
            have q1l := lt_of_block q1
            obtain ⟨q2c0, q2c1, q2c2⟩ := cells3 q2
            have q2l := lt_of_block q2
            obtain ⟨q3c0, q3c1, q3c2⟩ := cells3 q3
            have q3l := lt_of_block q3
            have fz := frozen3 q3
            go_wp2_with fail
            obtain ⟨r0, r1, r2, bel2⟩ := set3 (.int .i64 1) (.int .i64 (n01 (false))) (.string (str [])) q3 bel (by omega)
            refine bodyPost_ret (v := .tuple #[.agg #[.int .i64 1, .int .i64 (n01 (false)), .string (str [])], .int .i64 0]) (by simp [results, Try.results31, go_sem, r0, r1, r2, str_e]) rfl ⟨?_, bel2⟩
            rw [HR.out]; rfl
          · rw [show cmpB 4 (0) = false from by decide] at hR
            have HR := Lib.hid hR
            clear hR
            go_enter Try.func31, Try.ntmps31
            go_wp2_with fail
            refine (M1 _).mono ?_
            rintro e w1 ⟨rfl, g⟩
            replace q1 := (g.block _ (lt_of_block q1)).trans q1
            replace q2 := (g.block _ (lt_of_block q2)).trans q2
            replace q3 := (g.block _ (lt_of_block q3)).trans q3
            replace bel := chain bel g
            clear g
            obtain ⟨q1c0, q1c1, q1c2⟩ := cells3 q1
            have q1l := lt_of_block q1
            obtain ⟨q2c0, q2c1, q2c2⟩ := cells3 q2
            have q2l := lt_of_block q2
            obtain ⟨q3c0, q3c1, q3c2⟩ := cells3 q3
            have q3l := lt_of_block q3
            go_wp2_with fail
            refine (M2 _).mono ?_
            rintro e w1 ⟨rfl, g⟩
            clear q1c0 q1c1 q1c2 q1l
            replace q1 := (g.block _ (lt_of_block q1)).trans q1
            clear q2c0 q2c1 q2c2 q2l
            replace q2 := (g.block _ (lt_of_block q2)).trans q2
            clear q3c0 q3c1 q3c2 q3l
            replace q3 := (g.block _ (lt_of_block q3)).trans q3
            replace bel := chain bel g
            clear g
            obtain ⟨q1c0, q1c1, q1c2⟩ := cells3 q1
            have q1l := lt_of_block q1
            obtain ⟨q2c0, q2c1, q2c2⟩ := cells3 q2
            have q2l := lt_of_block q2
            obtain ⟨q3c0, q3c1, q3c2⟩ := cells3 q3
            have q3l := lt_of_block q3
            go_wp2_with fail
            refine (O _).mono ?_
            rintro e w2 ⟨rfl, g⟩
            clear q1c0 q1c1 q1c2 q1l
            replace q1 := (g.block _ (lt_of_block q1)).trans q1
            clear q2c0 q2c1 q2c2 q2l
            replace q2 := (g.block _ (lt_of_block q2)).trans q2
            clear q3c0 q3c1 q3c2 q3l
            replace q3 := (g.block _ (lt_of_block q3)).trans q3
            replace bel := chain bel g
            clear g
            obtain ⟨q1c0, q1c1, q1c2⟩ := cells3 q1
            have q1l := lt_of_block q1
            obtain ⟨q2c0, q2c1, q2c2⟩ := cells3 q2
            have q2l := lt_of_block q2
            obtain ⟨q3c0, q3c1, q3c2⟩ := cells3 q3
            have q3l := lt_of_block q3
            go_wp2_with fail
            refine (Bo (false) _).mono ?_
            rintro e w3 ⟨rfl, g⟩
            clear q1c0 q1c1 q1c2 q1l
            replace q1 := (g.block _ (lt_of_block q1)).trans q1
            clear q2c0 q2c1 q2c2 q2l
            replace q2 := (g.block _ (lt_of_block q2)).trans q2
            clear q3c0 q3c1 q3c2 q3l
            replace q3 := (g.block _ (lt_of_block q3)).trans q3
            replace bel := chain bel g
            clear g
            obtain ⟨q1c0, q1c1, q1c2⟩ := cells3 q1
            have q1l := lt_of_block q1
            obtain ⟨q2c0, q2c1, q2c2⟩ := cells3 q2
            have q2l := lt_of_block q2
            obtain ⟨q3c0, q3c1, q3c2⟩ := cells3 q3
            have q3l := lt_of_block q3
            have fz := frozen3 q3
            go_wp2_with fail
            obtain ⟨r0, r1, r2, bel2⟩ := set3 (.int .i64 1) (.int .i64 (n01 (false))) (.string (str [])) q3 bel (by omega)
            refine bodyPost_ret (v := .tuple #[.agg #[.int .i64 1, .int .i64 (n01 (false)), .string (str [])], .int .i64 0]) (by simp [results, Try.results31, go_sem, r0, r1, r2, str_e]) rfl ⟨?_, bel2⟩
            rw [HR.out]; rfl
          · rw [show cmpB 4 (1) = true from by decide] at hR
            have HR := Lib.hid hR
            clear hR
            go_enter Try.func31, Try.ntmps31
            go_wp2_with fail
            refine (M1 _).mono ?_
            rintro e w1 ⟨rfl, g⟩
            replace q1 := (g.block _ (lt_of_block q1)).trans q1
            replace q2 := (g.block _ (lt_of_block q2)).trans q2
            replace q3 := (g.block _ (lt_of_block q3)).trans q3
            replace bel := chain bel g
            clear g
            obtain ⟨q1c0, q1c1, q1c2⟩ := cells3 q1
            have q1l := lt_of_block q1
            obtain ⟨q2c0, q2c1, q2c2⟩ := cells3 q2
            have q2l := lt_of_block q2
            obtain ⟨q3c0, q3c1, q3c2⟩ := cells3 q3
            have q3l := lt_of_block q3
            go_wp2_with fail
            refine (M2 _).mono ?_
            rintro e w1 ⟨rfl, g⟩
            clear q1c0 q1c1 q1c2 q1l
            replace q1 := (g.block _ (lt_of_block q1)).trans q1
            clear q2c0 q2c1 q2c2 q2l
            replace q2 := (g.block _ (lt_of_block q2)).trans q2
            clear q3c0 q3c1 q3c2 q3l
            replace q3 := (g.block _ (lt_of_block q3)).trans q3
            replace bel := chain bel g
            clear g
            obtain ⟨q1c0, q1c1, q1c2⟩ := cells3 q1
            have q1l := lt_of_block q1
            obtain ⟨q2c0, q2c1, q2c2⟩ := cells3 q2
            have q2l := lt_of_block q2
            obtain ⟨q3c0, q3c1, q3c2⟩ := cells3 q3
            have q3l := lt_of_block q3
            go_wp2_with fail
            refine (O _).mono ?_
            rintro e w2 ⟨rfl, g⟩
            clear q1c0 q1c1 q1c2 q1l
            replace q1 := (g.block _ (lt_of_block q1)).trans q1
            clear q2c0 q2c1 q2c2 q2l
            replace q2 := (g.block _ (lt_of_block q2)).trans q2
            clear q3c0 q3c1 q3c2 q3l
            replace q3 := (g.block _ (lt_of_block q3)).trans q3
            replace bel := chain bel g
            clear g
            obtain ⟨q1c0, q1c1, q1c2⟩ := cells3 q1
            have q1l := lt_of_block q1
            obtain ⟨q2c0, q2c1, q2c2⟩ := cells3 q2
            have q2l := lt_of_block q2
            obtain ⟨q3c0, q3c1, q3c2⟩ := cells3 q3
            have q3l := lt_of_block q3
            go_wp2_with fail
            refine (Bo (true) _).mono ?_
            rintro e w3 ⟨rfl, g⟩
            clear q1c0 q1c1 q1c2 q1l
            replace q1 := (g.block _ (lt_of_block q1)).trans q1
            clear q2c0 q2c1 q2c2 q2l
            replace q2 := (g.block _ (lt_of_block q2)).trans q2
            clear q3c0 q3c1 q3c2 q3l
            replace q3 := (g.block _ (lt_of_block q3)).trans q3
            replace bel := chain bel g
            clear g
            obtain ⟨q1c0, q1c1, q1c2⟩ := cells3 q1
            have q1l := lt_of_block q1
            obtain ⟨q2c0, q2c1, q2c2⟩ := cells3 q2
            have q2l := lt_of_block q2
            obtain ⟨q3c0, q3c1, q3c2⟩ := cells3 q3
            have q3l := lt_of_block q3
            have fz := frozen3 q3
            go_wp2_with fail
            obtain ⟨r0, r1, r2, bel2⟩ := set3 (.int .i64 1) (.int .i64 (n01 (true))) (.string (str [])) q3 bel (by omega)
            refine bodyPost_ret (v := .tuple #[.agg #[.int .i64 1, .int .i64 (n01 (true)), .string (str [])], .int .i64 0]) (by simp [results, Try.results31, go_sem, r0, r1, r2, str_e]) rfl ⟨?_, bel2⟩
            rw [HR.out]; rfl
        · rw [if_pos ⟨by decide, hk⟩] at hR
          have hk2 : (k != k') = true := by simpa using hk
          clear hk r
          have HR := Lib.hid hR
          clear hR
          go_enter Try.func31, Try.ntmps31
          go_wp2_with fail
          refine (M1 _).mono ?_
          rintro e w1 ⟨rfl, g⟩
          replace q1 := (g.block _ (lt_of_block q1)).trans q1
          replace q2 := (g.block _ (lt_of_block q2)).trans q2
          replace q3 := (g.block _ (lt_of_block q3)).trans q3
          replace bel := chain bel g
          clear g
          obtain ⟨q1c0, q1c1, q1c2⟩ := cells3 q1
          have q1l := lt_of_block q1
          obtain ⟨q2c0, q2c1, q2c2⟩ := cells3 q2
          have q2l := lt_of_block q2
          obtain ⟨q3c0, q3c1, q3c2⟩ := cells3 q3
          have q3l := lt_of_block q3
          go_wp2_with fail
          refine (M2 _).mono ?_
          rintro e w1 ⟨rfl, g⟩
          clear q1c0 q1c1 q1c2 q1l
          replace q1 := (g.block _ (lt_of_block q1)).trans q1
          clear q2c0 q2c1 q2c2 q2l
          replace q2 := (g.block _ (lt_of_block q2)).trans q2
          clear q3c0 q3c1 q3c2 q3l
          replace q3 := (g.block _ (lt_of_block q3)).trans q3
          replace bel := chain bel g
          clear g
          obtain ⟨q1c0, q1c1, q1c2⟩ := cells3 q1
          have q1l := lt_of_block q1
          obtain ⟨q2c0, q2c1, q2c2⟩ := cells3 q2
          have q2l := lt_of_block q2
          obtain ⟨q3c0, q3c1, q3c2⟩ := cells3 q3
          have q3l := lt_of_block q3
          have fz := frozen3 q3
          go_wp2_with fail
          obtain ⟨r0, r1, r2, bel2⟩ := set3 (.int .i64 0) (.int .i64 0) (.string (str [])) q3 bel (by omega)
          refine bodyPost_ret (v := .tuple #[.agg #[.int .i64 0, .int .i64 0, .string (str [])], .int .i64 10]) (by simp [results, Try.results31, go_sem, r0, r1, r2, str_e]) rfl ⟨?_, bel2⟩
          rw [HR.out]; rfl
      · rw [if_neg (by omega)] at hR
        by_cases hk : k = k'
        · rw [if_neg (by intro h; exact h.2 hk)] at hR
          have hk2 : (k != k') = false := by simpa using hk
          clear hk
          rcases r with rfl | rfl | rfl
          · rw [show cmpB 5 (-1) = false from by decide] at hR
            have HR := Lib.hid hR
            clear hR
            go_enter Try.func31, Try.ntmps31
            go_wp2_with fail
            refine (M1 _).mono ?_
            rintro e w1 ⟨rfl, g⟩
            replace q1 := (g.block _ (lt_of_block q1)).trans q1
            replace q2 := (g.block _ (lt_of_block q2)).trans q2
            replace q3 := (g.block _ (lt_of_block q3)).trans q3
            replace bel := chain bel g
            clear g
            obtain ⟨q1c0, q1c1, q1c2⟩ := cells3 q1
            have q1l := lt_of_block q1
            obtain ⟨q2c0, q2c1, q2c2⟩ := cells3 q2
            have q2l := lt_of_block q2
            obtain ⟨q3c0, q3c1, q3c2⟩ := cells3 q3
            have q3l := lt_of_block q3
            go_wp2_with fail
            refine (M2 _).mono ?_
            rintro e w1 ⟨rfl, g⟩
            clear q1c0 q1c1 q1c2 q1l
            replace q1 := (g.block _ (lt_of_block q1)).trans q1
            clear q2c0 q2c1 q2c2 q2l
            replace q2 := (g.block _ (lt_of_block q2)).trans q2
            clear q3c0 q3c1 q3c2 q3l
            replace q3 := (g.block _ (lt_of_block q3)).trans q3
            replace bel := chain bel g
            clear g
            obtain ⟨q1c0, q1c1, q1c2⟩ := cells3 q1
            have q1l := lt_of_block q1
            obtain ⟨q2c0, q2c1, q2c2⟩ := cells3 q2
            have q2l := lt_of_block q2
            obtain ⟨q3c0, q3c1, q3c2⟩ := cells3 q3
            have q3l := lt_of_block q3
            go_wp2_with fail
            refine (O _).mono ?_
            rintro e w2 ⟨rfl, g⟩
            clear q1c0 q1c1 q1c2 q1l
            replace q1 := (g.block _ (lt_of_block q1)).trans q1
            clear q2c0 q2c1 q2c2 q2l
            replace q2 := (g.block _ (lt_of_block q2)).trans q2
            clear q3c0 q3c1 q3c2 q3l
            replace q3 := (g.block _ (lt_of_block q3)).trans q3
            replace bel := chain bel g
            clear g
            obtain ⟨q1c0, q1c1, q1c2⟩ := cells3 q1
            have q1l := lt_of_block q1
            obtain ⟨q2c0, q2c1, q2c2⟩ := cells3 q2
            have q2l := lt_of_block q2
            obtain ⟨q3c0, q3c1, q3c2⟩ := cells3 q3
            have q3l := lt_of_block q3
            go_wp2_with fail
            refine (Bo (false) _).mono ?_
            rintro e w3 ⟨rfl, g⟩
            clear q1c0 q1c1 q1c2 q1l
            replace q1 := (g.block _ (lt_of_block q1)).trans q1
            clear q2c0 q2c1 q2c2 q2l
            replace q2 := (g.block _ (lt_of_block q2)).trans q2
            clear q3c0 q3c1 q3c2 q3l
            replace q3 := (g.block _ (lt_of_block q3)).trans q3
            replace bel := chain bel g
            clear g
            obtain ⟨q1c0, q1c1, q1c2⟩ := cells3 q1
            have q1l := lt_of_block q1
            obtain ⟨q2c0, q2c1, q2c2⟩ := cells3 q2
            have q2l := lt_of_block q2
            obtain ⟨q3c0, q3c1, q3c2⟩ := cells3 q3
            have q3l := lt_of_block q3
            have fz := frozen3 q3
            go_wp2_with fail
            obtain ⟨r0, r1, r2, bel2⟩ := set3 (.int .i64 1) (.int .i64 (n01 (false))) (.string (str [])) q3 bel (by omega)
            refine bodyPost_ret (v := .tuple #[.agg #[.int .i64 1, .int .i64 (n01 (false)), .string (str [])], .int .i64 0]) (by simp [results, Try.results31, go_sem, r0, r1, r2, str_e]) rfl ⟨?_, bel2⟩
            rw [HR.out]; rfl
          · rw [show cmpB 5 (0) = true from by decide] at hR
            have HR := Lib.hid hR
            clear hR
            go_enter Try.func31, Try.ntmps31
            go_wp2_with fail
            refine (M1 _).mono ?_
            rintro e w1 ⟨rfl, g⟩
            replace q1 := (g.block _ (lt_of_block q1)).trans q1
            replace q2 := (g.block _ (lt_of_block q2)).trans q2
            replace q3 := (g.block _ (lt_of_block q3)).trans q3
            replace bel := chain bel g
            clear g
            obtain ⟨q1c0, q1c1, q1c2⟩ := cells3 q1
            have q1l := lt_of_block q1
            obtain ⟨q2c0, q2c1, q2c2⟩ := cells3 q2
            have q2l := lt_of_block q2
            obtain ⟨q3c0, q3c1, q3c2⟩ := cells3 q3
            have q3l := lt_of_block q3
            go_wp2_with fail
            refine (M2 _).mono ?_
            rintro e w1 ⟨rfl, g⟩
            clear q1c0 q1c1 q1c2 q1l
            replace q1 := (g.block _ (lt_of_block q1)).trans q1
            clear q2c0 q2c1 q2c2 q2l
            replace q2 := (g.block _ (lt_of_block q2)).trans q2
            clear q3c0 q3c1 q3c2 q3l
            replace q3 := (g.block _ (lt_of_block q3)).trans q3
            replace bel := chain bel g
            clear g
            obtain ⟨q1c0, q1c1, q1c2⟩ := cells3 q1
            have q1l := lt_of_block q1
            obtain ⟨q2c0, q2c1, q2c2⟩ := cells3 q2
            have q2l := lt_of_block q2
            obtain ⟨q3c0, q3c1, q3c2⟩ := cells3 q3
            have q3l := lt_of_block q3
            go_wp2_with fail
            refine (O _).mono ?_
            rintro e w2 ⟨rfl, g⟩
            clear q1c0 q1c1 q1c2 q1l
            replace q1 := (g.block _ (lt_of_block q1)).trans q1
            clear q2c0 q2c1 q2c2 q2l
            replace q2 := (g.block _ (lt_of_block q2)).trans q2
            clear q3c0 q3c1 q3c2 q3l
            replace q3 := (g.block _ (lt_of_block q3)).trans q3
            replace bel := chain bel g
            clear g
            obtain ⟨q1c0, q1c1, q1c2⟩ := cells3 q1
            have q1l := lt_of_block q1
            obtain ⟨q2c0, q2c1, q2c2⟩ := cells3 q2
            have q2l := lt_of_block q2
            obtain ⟨q3c0, q3c1, q3c2⟩ := cells3 q3
            have q3l := lt_of_block q3
            go_wp2_with fail
            refine (Bo (true) _).mono ?_
            rintro e w3 ⟨rfl, g⟩
            clear q1c0 q1c1 q1c2 q1l
            replace q1 := (g.block _ (lt_of_block q1)).trans q1
            clear q2c0 q2c1 q2c2 q2l
            replace q2 := (g.block _ (lt_of_block q2)).trans q2
            clear q3c0 q3c1 q3c2 q3l
            replace q3 := (g.block _ (lt_of_block q3)).trans q3
            replace bel := chain bel g
            clear g
            obtain ⟨q1c0, q1c1, q1c2⟩ := cells3 q1
            have q1l := lt_of_block q1
            obtain ⟨q2c0, q2c1, q2c2⟩ := cells3 q2
            have q2l := lt_of_block q2
            obtain ⟨q3c0, q3c1, q3c2⟩ := cells3 q3
            have q3l := lt_of_block q3
            have fz := frozen3 q3
            go_wp2_with fail
            obtain ⟨r0, r1, r2, bel2⟩ := set3 (.int .i64 1) (.int .i64 (n01 (true))) (.string (str [])) q3 bel (by omega)
            refine bodyPost_ret (v := .tuple #[.agg #[.int .i64 1, .int .i64 (n01 (true)), .string (str [])], .int .i64 0]) (by simp [results, Try.results31, go_sem, r0, r1, r2, str_e]) rfl ⟨?_, bel2⟩
            rw [HR.out]; rfl
          · rw [show cmpB 5 (1) = true from by decide] at hR
            have HR := Lib.hid hR
            clear hR
            go_enter Try.func31, Try.ntmps31
            go_wp2_with fail
            refine (M1 _).mono ?_
            rintro e w1 ⟨rfl, g⟩
            replace q1 := (g.block _ (lt_of_block q1)).trans q1
            replace q2 := (g.block _ (lt_of_block q2)).trans q2
            replace q3 := (g.block _ (lt_of_block q3)).trans q3
            replace bel := chain bel g
            clear g
            obtain ⟨q1c0, q1c1, q1c2⟩ := cells3 q1
            have q1l := lt_of_block q1
            obtain ⟨q2c0, q2c1, q2c2⟩ := cells3 q2
            have q2l := lt_of_block q2
            obtain ⟨q3c0, q3c1, q3c2⟩ := cells3 q3
            have q3l := lt_of_block q3
            go_wp2_with fail
            refine (M2 _).mono ?_
            rintro e w1 ⟨rfl, g⟩
            clear q1c0 q1c1 q1c2 q1l
            replace q1 := (g.block _ (lt_of_block q1)).trans q1
            clear q2c0 q2c1 q2c2 q2l
            replace q2 := (g.block _ (lt_of_block q2)).trans q2
            clear q3c0 q3c1 q3c2 q3l
            replace q3 := (g.block _ (lt_of_block q3)).trans q3
            replace bel := chain bel g
            clear g
            obtain ⟨q1c0, q1c1, q1c2⟩ := cells3 q1
            have q1l := lt_of_block q1
            obtain ⟨q2c0, q2c1, q2c2⟩ := cells3 q2
            have q2l := lt_of_block q2
            obtain ⟨q3c0, q3c1, q3c2⟩ := cells3 q3
            have q3l := lt_of_block q3
            go_wp2_with fail
            refine (O _).mono ?_
            rintro e w2 ⟨rfl, g⟩
            clear q1c0 q1c1 q1c2 q1l
            replace q1 := (g.block _ (lt_of_block q1)).trans q1
            clear q2c0 q2c1 q2c2 q2l
            replace q2 := (g.block _ (lt_of_block q2)).trans q2
            clear q3c0 q3c1 q3c2 q3l
            replace q3 := (g.block _ (lt_of_block q3)).trans q3
            replace bel := chain bel g
            clear g
            obtain ⟨q1c0, q1c1, q1c2⟩ := cells3 q1
            have q1l := lt_of_block q1
            obtain ⟨q2c0, q2c1, q2c2⟩ := cells3 q2
            have q2l := lt_of_block q2
            obtain ⟨q3c0, q3c1, q3c2⟩ := cells3 q3
            have q3l := lt_of_block q3
            go_wp2_with fail
            refine (Bo (true) _).mono ?_
            rintro e w3 ⟨rfl, g⟩
            clear q1c0 q1c1 q1c2 q1l
            replace q1 := (g.block _ (lt_of_block q1)).trans q1
            clear q2c0 q2c1 q2c2 q2l
            replace q2 := (g.block _ (lt_of_block q2)).trans q2
            clear q3c0 q3c1 q3c2 q3l
            replace q3 := (g.block _ (lt_of_block q3)).trans q3
            replace bel := chain bel g
            clear g
            obtain ⟨q1c0, q1c1, q1c2⟩ := cells3 q1
            have q1l := lt_of_block q1
            obtain ⟨q2c0, q2c1, q2c2⟩ := cells3 q2
            have q2l := lt_of_block q2
            obtain ⟨q3c0, q3c1, q3c2⟩ := cells3 q3
            have q3l := lt_of_block q3
            have fz := frozen3 q3
            go_wp2_with fail
            obtain ⟨r0, r1, r2, bel2⟩ := set3 (.int .i64 1) (.int .i64 (n01 (true))) (.string (str [])) q3 bel (by omega)
            refine bodyPost_ret (v := .tuple #[.agg #[.int .i64 1, .int .i64 (n01 (true)), .string (str [])], .int .i64 0]) (by simp [results, Try.results31, go_sem, r0, r1, r2, str_e]) rfl ⟨?_, bel2⟩
            rw [HR.out]; rfl
        · rw [if_pos ⟨by decide, hk⟩] at hR
          have hk2 : (k != k') = true := by simpa using hk
          clear hk r
          have HR := Lib.hid hR
          clear hR
          go_enter Try.func31, Try.ntmps31
          go_wp2_with fail
          refine (M1 _).mono ?_
          rintro e w1 ⟨rfl, g⟩
          replace q1 := (g.block _ (lt_of_block q1)).trans q1
          replace q2 := (g.block _ (lt_of_block q2)).trans q2
          replace q3 := (g.block _ (lt_of_block q3)).trans q3
          replace bel := chain bel g
          clear g
          obtain ⟨q1c0, q1c1, q1c2⟩ := cells3 q1
          have q1l := lt_of_block q1
          obtain ⟨q2c0, q2c1, q2c2⟩ := cells3 q2
          have q2l := lt_of_block q2
          obtain ⟨q3c0, q3c1, q3c2⟩ := cells3 q3
          have q3l := lt_of_block q3
          go_wp2_with fail
          refine (M2 _).mono ?_
          rintro e w1 ⟨rfl, g⟩
          clear q1c0 q1c1 q1c2 q1l
          replace q1 := (g.block _ (lt_of_block q1)).trans q1
          clear q2c0 q2c1 q2c2 q2l
          replace q2 := (g.block _ (lt_of_block q2)).trans q2
          clear q3c0 q3c1 q3c2 q3l
          replace q3 := (g.block _ (lt_of_block q3)).trans q3
          replace bel := chain bel g
          clear g
          obtain ⟨q1c0, q1c1, q1c2⟩ := cells3 q1
          have q1l := lt_of_block q1
          obtain ⟨q2c0, q2c1, q2c2⟩ := cells3 q2
          have q2l := lt_of_block q2
          obtain ⟨q3c0, q3c1, q3c2⟩ := cells3 q3
          have q3l := lt_of_block q3
          have fz := frozen3 q3
          go_wp2_with fail
          obtain ⟨r0, r1, r2, bel2⟩ := set3 (.int .i64 0) (.int .i64 0) (.string (str [])) q3 bel (by omega)
          refine bodyPost_ret (v := .tuple #[.agg #[.int .i64 0, .int .i64 0, .string (str [])], .int .i64 10]) (by simp [results, Try.results31, go_sem, r0, r1, r2, str_e]) rfl ⟨?_, bel2⟩
          rw [HR.out]; rfl
end Go.Proofs.Ythakimgpaemfeaa
