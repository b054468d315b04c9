/- Values: how any two are to one another. Written by wip/tools/gen7j.py. -/
import Derived.Test.YtcehgfganjdghaaDoorQVTC14
namespace Go.Proofs.YtcehgfganjdghaaDoor.V7
open Go Go.RowKit
set_option linter.unusedVariables false
set_option linter.unusedSimpArgs false
def cmpB (op o : Int) : Bool := if op = 0 then o == 0 else if op = 1 then o != 0 else if op = 2 then decide (o < 0) else if op = 3 then decide (o ≤ 0) else if op = 4 then decide (0 < o) else decide (0 ≤ o)
def nilT (e : Int) : Value := .tuple #[.agg #[.int .i64 0, .int .i64 0, .string (str [])], .int .i64 e]
def n01 (b : Bool) : Int := if b then 1 else 0
theorem bool_n (b : Bool) (w : World) :
    Calls Tryd.prog 71 #[.bool b] w fun e w' => e = .returned (.agg #[.int .i64 1, .int .i64 (n01 b), .string (str [])]) ∧ Below w.heap.size w w' := bool_any b w
def boolT (b : Bool) : Value := .tuple #[.agg #[.int .i64 1, .int .i64 (n01 b), .string (str [])], .int .i64 0]
/-- What a comparison comes to. -/
def cmpV (op : Int) (a b : V) : Value := if mayB a = false then nilT 1 else if mayB b = false then nilT 1 else if op < 0 ∨ 5 < op then nilT 4 else if 1 < op ∧ a.k ≠ b.k then nilT 10 else boolT (cmpB op (ordV a b))
set_option maxRecDepth 100000 in
set_option maxHeartbeats 4000000 in
theorem compare_any (op k i : Int) (s : List UInt8) (k' i' : Int) (s' : List UInt8) (hs : s.length ≤ maxLen) (hs' : s'.length ≤ maxLen) (w : World) :
    Calls Tryd.prog 78 #[.int .i64 op, .agg #[.int .i64 k, .int .i64 i, .string (str s)], .agg #[.int .i64 k', .int .i64 i', .string (str s')]] w fun e w' => e = .returned (cmpV op ⟨k, i, s⟩ ⟨k', i', s'⟩) ∧ Below w.heap.size w w' := by
  have M1 := fun w => may_any k i s w hs
  have M2 := fun w => may_any k' i' s' w hs'
  have O := fun w => order_any k i s k' i' s' w
  have Bo := bool_n
  obtain ⟨R, hR⟩ : ∃ R, R = cmpV op ⟨k, i, s⟩ ⟨k', i', s'⟩ := ⟨_, rfl⟩
  rw [← hR]
  unfold cmpV at hR
  generalize mayB ⟨k, i, s⟩ = m1 at M1 hR
  generalize mayB ⟨k', i', s'⟩ = m2 at M2 hR
  generalize ordV ⟨k, i, s⟩ ⟨k', i', s'⟩ = o at O hR
  simp only at hR
  clear hs hs'
  obtain ⟨q1, q2, q3⟩ := three_allocs w (.cells #[.int .i64 k, .int .i64 i, .string (str s)] 30) (.cells #[.int .i64 k', .int .i64 i', .string (str s')] 30) (.cells #[.int .i64 0, .int .i64 0, .string (str [])] 30)
  have bel : Below w.heap.size w (((w.alloc (.cells #[.int .i64 k, .int .i64 i, .string (str s)] 30)).alloc (.cells #[.int .i64 k', .int .i64 i', .string (str s')] 30)).alloc (.cells #[.int .i64 0, .int .i64 0, .string (str [])] 30)) := (((Below.refl _ w).alloc (Nat.le_refl _) _).alloc (by simp) _).alloc (by simp; omega) _
  cases m1 with
  | false =>
    rw [if_pos rfl] at hR
    have HR := Lib.hid hR
    clear hR
    go_enter Tryd.func78, Tryd.ntmps78
    go_wp2_with fail
    refine (M1 _).mono ?_
    rintro e w1 ⟨rfl, g⟩
    replace q1 := (g.block _ (lt_of_block q1)).trans q1
    replace q2 := (g.block _ (lt_of_block q2)).trans q2
    replace q3 := (g.block _ (lt_of_block q3)).trans q3
    replace bel := chain bel g
    clear g
    obtain ⟨q1c0, q1c1, q1c2⟩ := cells3 q1
    have q1l := lt_of_block q1
    obtain ⟨q2c0, q2c1, q2c2⟩ := cells3 q2
    have q2l := lt_of_block q2
    obtain ⟨q3c0, q3c1, q3c2⟩ := cells3 q3
    have q3l := lt_of_block q3
    have fz := frozen3 q3
    go_wp2_with fail
    obtain ⟨r0, r1, r2, bel2⟩ := set3 (.int .i64 0) (.int .i64 0) (.string (str [])) q3 bel (by omega)
    refine bodyPost_ret (v := .tuple #[.agg #[.int .i64 0, .int .i64 0, .string (str [])], .int .i64 1]) (by simp [results, Tryd.results78, go_sem, r0, r1, r2, str_e]) rfl ⟨?_, bel2⟩
    rw [HR.out]; rfl
  | true =>
    rw [if_neg (by simp)] at hR
    cases m2 with
    | false =>
      rw [if_pos rfl] at hR
      have HR := Lib.hid hR
      clear hR
      go_enter Tryd.func78, Tryd.ntmps78
      go_wp2_with fail
      refine (M1 _).mono ?_
      rintro e w1 ⟨rfl, g⟩
      replace q1 := (g.block _ (lt_of_block q1)).trans q1
      replace q2 := (g.block _ (lt_of_block q2)).trans q2
      replace q3 := (g.block _ (lt_of_block q3)).trans q3
      replace bel := chain bel g
      clear g
      obtain ⟨q1c0, q1c1, q1c2⟩ := cells3 q1
      have q1l := lt_of_block q1
      obtain ⟨q2c0, q2c1, q2c2⟩ := cells3 q2
      have q2l := lt_of_block q2
      obtain ⟨q3c0, q3c1, q3c2⟩ := cells3 q3
      have q3l := lt_of_block q3
      go_wp2_with fail
      refine (M2 _).mono ?_
      rintro e w1 ⟨rfl, g⟩
      clear q1c0 q1c1 q1c2 q1l
      replace q1 := (g.block _ (lt_of_block q1)).trans q1
      clear q2c0 q2c1 q2c2 q2l
      replace q2 := (g.block _ (lt_of_block q2)).trans q2
      clear q3c0 q3c1 q3c2 q3l
      replace q3 := (g.block _ (lt_of_block q3)).trans q3
      replace bel := chain bel g
      clear g
      obtain ⟨q1c0, q1c1, q1c2⟩ := cells3 q1
      have q1l := lt_of_block q1
      obtain ⟨q2c0, q2c1, q2c2⟩ := cells3 q2
      have q2l := lt_of_block q2
      obtain ⟨q3c0, q3c1, q3c2⟩ := cells3 q3
      have q3l := lt_of_block q3
      have fz := frozen3 q3
      go_wp2_with fail
      obtain ⟨r0, r1, r2, bel2⟩ := set3 (.int .i64 0) (.int .i64 0) (.string (str [])) q3 bel (by omega)
      refine bodyPost_ret (v := .tuple #[.agg #[.int .i64 0, .int .i64 0, .string (str [])], .int .i64 1]) (by simp [results, Tryd.results78, go_sem, r0, r1, r2, str_e]) rfl ⟨?_, bel2⟩
      rw [HR.out]; rfl
    | true =>
      rw [if_neg (by simp)] at hR
      rcases (show op < 0 ∨ (0 ≤ op ∧ 5 < op) ∨ op = 0 ∨ op = 1 ∨ op = 2 ∨ op = 3 ∨ op = 4 ∨ op = 5 by omega) with h | ⟨h, h5⟩ | rfl | rfl | rfl | rfl | rfl | rfl
      · rw [if_pos (.inl h)] at hR
        have HR := Lib.hid hR
        clear hR
        go_enter Tryd.func78, Tryd.ntmps78
        go_wp2_with fail
        refine (M1 _).mono ?_
        rintro e w1 ⟨rfl, g⟩
        replace q1 := (g.block _ (lt_of_block q1)).trans q1
        replace q2 := (g.block _ (lt_of_block q2)).trans q2
        replace q3 := (g.block _ (lt_of_block q3)).trans q3
        replace bel := chain bel g
        clear g
        obtain ⟨q1c0, q1c1, q1c2⟩ := cells3 q1
        have q1l := lt_of_block q1
        obtain ⟨q2c0, q2c1, q2c2⟩ := cells3 q2
        have q2l := lt_of_block q2
        obtain ⟨q3c0, q3c1, q3c2⟩ := cells3 q3
        have q3l := lt_of_block q3
        go_wp2_with fail
        refine (M2 _).mono ?_
        rintro e w1 ⟨rfl, g⟩
        clear q1c0 q1c1 q1c2 q1l
        replace q1 := (g.block _ (lt_of_block q1)).trans q1
        clear q2c0 q2c1 q2c2 q2l
        replace q2 := (g.block _ (lt_of_block q2)).trans q2
        clear q3c0 q3c1 q3c2 q3l
        replace q3 := (g.block _ (lt_of_block q3)).trans q3
        replace bel := chain bel g
        clear g
        obtain ⟨q1c0, q1c1, q1c2⟩ := cells3 q1
        have q1l := lt_of_block q1
        obtain ⟨q2c0, q2c1, q2c2⟩ := cells3 q2
        have q2l := lt_of_block q2
        obtain ⟨q3c0, q3c1, q3c2⟩ := cells3 q3
        have q3l := lt_of_block q3
        have fz := frozen3 q3
        go_wp2_with fail
        obtain ⟨r0, r1, r2, bel2⟩ := set3 (.int .i64 0) (.int .i64 0) (.string (str [])) q3 bel (by omega)
        refine bodyPost_ret (v := .tuple #[.agg #[.int .i64 0, .int .i64 0, .string (str [])], .int .i64 4]) (by simp [results, Tryd.results78, go_sem, r0, r1, r2, str_e]) rfl ⟨?_, bel2⟩
        rw [HR.out]; rfl
      · rw [if_pos (.inr h5)] at hR
        have HR := Lib.hid hR
        clear hR
        go_enter Tryd.func78, Tryd.ntmps78
        go_wp2_with fail
        refine (M1 _).mono ?_
        rintro e w1 ⟨rfl, g⟩
        replace q1 := (g.block _ (lt_of_block q1)).trans q1
        replace q2 := (g.block _ (lt_of_block q2)).trans q2
        replace q3 := (g.block _ (lt_of_block q3)).trans q3
        replace bel := chain bel g
        clear g
        obtain ⟨q1c0, q1c1, q1c2⟩ := cells3 q1
        have q1l := lt_of_block q1
        obtain ⟨q2c0, q2c1, q2c2⟩ := cells3 q2
        have q2l := lt_of_block q2
        obtain ⟨q3c0, q3c1, q3c2⟩ := cells3 q3
        have q3l := lt_of_block q3
        go_wp2_with fail
        refine (M2 _).mono ?_
        rintro e w1 ⟨rfl, g⟩
        clear q1c0 q1c1 q1c2 q1l
        replace q1 := (g.block _ (lt_of_block q1)).trans q1
        clear q2c0 q2c1 q2c2 q2l
        replace q2 := (g.block _ (lt_of_block q2)).trans q2
        clear q3c0 q3c1 q3c2 q3l
        replace q3 := (g.block _ (lt_of_block q3)).trans q3
        replace bel := chain bel g
        clear g
        obtain ⟨q1c0, q1c1, q1c2⟩ := cells3 q1
        have q1l := lt_of_block q1
        obtain ⟨q2c0, q2c1, q2c2⟩ := cells3 q2
        have q2l := lt_of_block q2
        obtain ⟨q3c0, q3c1, q3c2⟩ := cells3 q3
        have q3l := lt_of_block q3
        have fz := frozen3 q3
        go_wp2_with fail
        obtain ⟨r0, r1, r2, bel2⟩ := set3 (.int .i64 0) (.int .i64 0) (.string (str [])) q3 bel (by omega)
        refine bodyPost_ret (v := .tuple #[.agg #[.int .i64 0, .int .i64 0, .string (str [])], .int .i64 4]) (by simp [results, Tryd.results78, go_sem, r0, r1, r2, str_e]) rfl ⟨?_, bel2⟩
        rw [HR.out]; rfl
      · rw [if_neg (by omega), if_neg (by omega)] at hR
        have ix : ∀ w, (Instr.index 125 (.agg #[.bool (o == 0), .bool (o != 0), .bool (decide (o < 0)), .bool (decide (o ≤ 0)), .bool (decide (0 < o)), .bool (decide (0 ≤ o))]) (.int .i64 0)).run Tryd.prog w = .ok (.bool (o == 0)) w := fun w => by kernel_rfl
        have HR := Lib.hid hR
        clear hR
        go_enter Tryd.func78, Tryd.ntmps78
        go_wp2_with fail
        refine (M1 _).mono ?_
        rintro e w1 ⟨rfl, g⟩
        replace q1 := (g.block _ (lt_of_block q1)).trans q1
        replace q2 := (g.block _ (lt_of_block q2)).trans q2
        replace q3 := (g.block _ (lt_of_block q3)).trans q3
        replace bel := chain bel g
        clear g
        obtain ⟨q1c0, q1c1, q1c2⟩ := cells3 q1
        have q1l := lt_of_block q1
        obtain ⟨q2c0, q2c1, q2c2⟩ := cells3 q2
        have q2l := lt_of_block q2
        obtain ⟨q3c0, q3c1, q3c2⟩ := cells3 q3
        have q3l := lt_of_block q3
        go_wp2_with fail
        refine (M2 _).mono ?_
        rintro e w1 ⟨rfl, g⟩
        clear q1c0 q1c1 q1c2 q1l
        replace q1 := (g.block _ (lt_of_block q1)).trans q1
        clear q2c0 q2c1 q2c2 q2l
        replace q2 := (g.block _ (lt_of_block q2)).trans q2
        clear q3c0 q3c1 q3c2 q3l
        replace q3 := (g.block _ (lt_of_block q3)).trans q3
        replace bel := chain bel g
        clear g
        obtain ⟨q1c0, q1c1, q1c2⟩ := cells3 q1
        have q1l := lt_of_block q1
        obtain ⟨q2c0, q2c1, q2c2⟩ := cells3 q2
        have q2l := lt_of_block q2
        obtain ⟨q3c0, q3c1, q3c2⟩ := cells3 q3
        have q3l := lt_of_block q3
        go_wp2_with fail
        refine (O _).mono ?_
        rintro e w2 ⟨rfl, g⟩
        clear q1c0 q1c1 q1c2 q1l
        replace q1 := (g.block _ (lt_of_block q1)).trans q1
        clear q2c0 q2c1 q2c2 q2l
        replace q2 := (g.block _ (lt_of_block q2)).trans q2
        clear q3c0 q3c1 q3c2 q3l
        replace q3 := (g.block _ (lt_of_block q3)).trans q3
        replace bel := chain bel g
        clear g
        obtain ⟨q1c0, q1c1, q1c2⟩ := cells3 q1
        have q1l := lt_of_block q1
        obtain ⟨q2c0, q2c1, q2c2⟩ := cells3 q2
        have q2l := lt_of_block q2
        obtain ⟨q3c0, q3c1, q3c2⟩ := cells3 q3
        have q3l := lt_of_block q3
        go_wp2_with fail
        refine (Bo ((o == 0)) _).mono ?_
        rintro e w3 ⟨rfl, g⟩
        clear q1c0 q1c1 q1c2 q1l
        replace q1 := (g.block _ (lt_of_block q1)).trans q1
        clear q2c0 q2c1 q2c2 q2l
        replace q2 := (g.block _ (lt_of_block q2)).trans q2
        clear q3c0 q3c1 q3c2 q3l
        replace q3 := (g.block _ (lt_of_block q3)).trans q3
        replace bel := chain bel g
        clear g
        obtain ⟨q1c0, q1c1, q1c2⟩ := cells3 q1
        have q1l := lt_of_block q1
        obtain ⟨q2c0, q2c1, q2c2⟩ := cells3 q2
        have q2l := lt_of_block q2
        obtain ⟨q3c0, q3c1, q3c2⟩ := cells3 q3
        have q3l := lt_of_block q3
        have fz := frozen3 q3
        go_wp2_with fail
        obtain ⟨r0, r1, r2, bel2⟩ := set3 (.int .i64 1) (.int .i64 (n01 ((o == 0)))) (.string (str [])) q3 bel (by omega)
        refine bodyPost_ret (v := .tuple #[.agg #[.int .i64 1, .int .i64 (n01 ((o == 0))), .string (str [])], .int .i64 0]) (by simp [results, Tryd.results78, go_sem, r0, r1, r2, str_e]) rfl ⟨?_, bel2⟩
        rw [HR.out]; rfl
      · rw [if_neg (by omega), if_neg (by omega)] at hR
        have ix : ∀ w, (Instr.index 125 (.agg #[.bool (o == 0), .bool (o != 0), .bool (decide (o < 0)), .bool (decide (o ≤ 0)), .bool (decide (0 < o)), .bool (decide (0 ≤ o))]) (.int .i64 1)).run Tryd.prog w = .ok (.bool (o != 0)) w := fun w => by kernel_rfl
        have HR := Lib.hid hR
        clear hR
        go_enter Tryd.func78, Tryd.ntmps78
        go_wp2_with fail
        refine (M1 _).mono ?_
        rintro e w1 ⟨rfl, g⟩
        replace q1 := (g.block _ (lt_of_block q1)).trans q1
        replace q2 := (g.block _ (lt_of_block q2)).trans q2
        replace q3 := (g.block _ (lt_of_block q3)).trans q3
        replace bel := chain bel g
        clear g
        obtain ⟨q1c0, q1c1, q1c2⟩ := cells3 q1
        have q1l := lt_of_block q1
        obtain ⟨q2c0, q2c1, q2c2⟩ := cells3 q2
        have q2l := lt_of_block q2
        obtain ⟨q3c0, q3c1, q3c2⟩ := cells3 q3
        have q3l := lt_of_block q3
        go_wp2_with fail
        refine (M2 _).mono ?_
        rintro e w1 ⟨rfl, g⟩
        clear q1c0 q1c1 q1c2 q1l
        replace q1 := (g.block _ (lt_of_block q1)).trans q1
        clear q2c0 q2c1 q2c2 q2l
        replace q2 := (g.block _ (lt_of_block q2)).trans q2
        clear q3c0 q3c1 q3c2 q3l
        replace q3 := (g.block _ (lt_of_block q3)).trans q3
        replace bel := chain bel g
        clear g
        obtain ⟨q1c0, q1c1, q1c2⟩ := cells3 q1
        have q1l := lt_of_block q1
        obtain ⟨q2c0, q2c1, q2c2⟩ := cells3 q2
        have q2l := lt_of_block q2
        obtain ⟨q3c0, q3c1, q3c2⟩ := cells3 q3
        have q3l := lt_of_block q3
        go_wp2_with fail
        refine (O _).mono ?_
        rintro e w2 ⟨rfl, g⟩
        clear q1c0 q1c1 q1c2 q1l
        replace q1 := (g.block _ (lt_of_block q1)).trans q1
        clear q2c0 q2c1 q2c2 q2l
        replace q2 := (g.block _ (lt_of_block q2)).trans q2
        clear q3c0 q3c1 q3c2 q3l
        replace q3 := (g.block _ (lt_of_block q3)).trans q3
        replace bel := chain bel g
        clear g
        obtain ⟨q1c0, q1c1, q1c2⟩ := cells3 q1
        have q1l := lt_of_block q1
        obtain ⟨q2c0, q2c1, q2c2⟩ := cells3 q2
        have q2l := lt_of_block q2
        obtain ⟨q3c0, q3c1, q3c2⟩ := cells3 q3
        have q3l := lt_of_block q3
        go_wp2_with fail
        refine (Bo ((o != 0)) _).mono ?_
        rintro e w3 ⟨rfl, g⟩
        clear q1c0 q1c1 q1c2 q1l
        replace q1 := (g.block _ (lt_of_block q1)).trans q1
        clear q2c0 q2c1 q2c2 q2l
        replace q2 := (g.block _ (lt_of_block q2)).trans q2
        clear q3c0 q3c1 q3c2 q3l
        replace q3 := (g.block _ (lt_of_block q3)).trans q3
        replace bel := chain bel g
        clear g
        obtain ⟨q1c0, q1c1, q1c2⟩ := cells3 q1
        have q1l := lt_of_block q1
        obtain ⟨q2c0, q2c1, q2c2⟩ := cells3 q2
        have q2l := lt_of_block q2
        obtain ⟨q3c0, q3c1, q3c2⟩ := cells3 q3
        have q3l := lt_of_block q3
        have fz := frozen3 q3
        go_wp2_with fail
        obtain ⟨r0, r1, r2, bel2⟩ := set3 (.int .i64 1) (.int .i64 (n01 ((o != 0)))) (.string (str [])) q3 bel (by omega)
        refine bodyPost_ret (v := .tuple #[.agg #[.int .i64 1, .int .i64 (n01 ((o != 0))), .string (str [])], .int .i64 0]) (by simp [results, Tryd.results78, go_sem, r0, r1, r2, str_e]) rfl ⟨?_, bel2⟩
        rw [HR.out]; rfl
      · rw [if_neg (by omega)] at hR
        by_cases hk : k = k'
        · rw [if_neg (by intro h; exact h.2 hk)] at hR
          have hk2 : (k != k') = false := by simpa using hk
          clear hk
          have ix : ∀ w, (Instr.index 125 (.agg #[.bool (o == 0), .bool (o != 0), .bool (decide (o < 0)), .bool (decide (o ≤ 0)), .bool (decide (0 < o)), .bool (decide (0 ≤ o))]) (.int .i64 2)).run Tryd.prog w = .ok (.bool (decide (o < 0))) w := fun w => by kernel_rfl
          have HR := Lib.hid hR
          clear hR
          go_enter Tryd.func78, Tryd.ntmps78
          go_wp2_with fail
          refine (M1 _).mono ?_
          rintro e w1 ⟨rfl, g⟩
          replace q1 := (g.block _ (lt_of_block q1)).trans q1
          replace q2 := (g.block _ (lt_of_block q2)).trans q2
          replace q3 := (g.block _ (lt_of_block q3)).trans q3
          replace bel := chain bel g
          clear g
          obtain ⟨q1c0, q1c1, q1c2⟩ := cells3 q1
          have q1l := lt_of_block q1
          obtain ⟨q2c0, q2c1, q2c2⟩ := cells3 q2
          have q2l := lt_of_block q2
          obtain ⟨q3c0, q3c1, q3c2⟩ := cells3 q3
          have q3l := lt_of_block q3
          go_wp2_with fail
          refine (M2 _).mono ?_
          rintro e w1 ⟨rfl, g⟩
          clear q1c0 q1c1 q1c2 q1l
          replace q1 := (g.block _ (lt_of_block q1)).trans q1
          clear q2c0 q2c1 q2c2 q2l
          replace q2 := (g.block _ (lt_of_block q2)).trans q2
          clear q3c0 q3c1 q3c2 q3l
          replace q3 := (g.block _ (lt_of_block q3)).trans q3
          replace bel := chain bel g
          clear g
          obtain ⟨q1c0, q1c1, q1c2⟩ := cells3 q1
          have q1l := lt_of_block q1
          obtain ⟨q2c0, q2c1, q2c2⟩ := cells3 q2
          have q2l := lt_of_block q2
          obtain ⟨q3c0, q3c1, q3c2⟩ := cells3 q3
          have q3l := lt_of_block q3
          go_wp2_with fail
          refine (O _).mono ?_
          rintro e w2 ⟨rfl, g⟩
          clear q1c0 q1c1 q1c2 q1l
          replace q1 := (g.block _ (lt_of_block q1)).trans q1
          clear q2c0 q2c1 q2c2 q2l
          replace q2 := (g.block _ (lt_of_block q2)).trans q2
          clear q3c0 q3c1 q3c2 q3l
          replace q3 := (g.block _ (lt_of_block q3)).trans q3
          replace bel := chain bel g
          clear g
          obtain ⟨q1c0, q1c1, q1c2⟩ := cells3 q1
          have q1l := lt_of_block q1
          obtain ⟨q2c0, q2c1, q2c2⟩ := cells3 q2
          have q2l := lt_of_block q2
          obtain ⟨q3c0, q3c1, q3c2⟩ := cells3 q3
          have q3l := lt_of_block q3
          go_wp2_with fail
          refine (Bo (decide (o < 0)) _).mono ?_
          rintro e w3 ⟨rfl, g⟩
          clear q1c0 q1c1 q1c2 q1l
          replace q1 := (g.block _ (lt_of_block q1)).trans q1
          clear q2c0 q2c1 q2c2 q2l
          replace q2 := (g.block _ (lt_of_block q2)).trans q2
          clear q3c0 q3c1 q3c2 q3l
          replace q3 := (g.block _ (lt_of_block q3)).trans q3
          replace bel := chain bel g
          clear g
          obtain ⟨q1c0, q1c1, q1c2⟩ := cells3 q1
          have q1l := lt_of_block q1
          obtain ⟨q2c0, q2c1, q2c2⟩ := cells3 q2
          have q2l := lt_of_block q2
          obtain ⟨q3c0, q3c1, q3c2⟩ := cells3 q3
          have q3l := lt_of_block q3
          have fz := frozen3 q3
          go_wp2_with fail
          obtain ⟨r0, r1, r2, bel2⟩ := set3 (.int .i64 1) (.int .i64 (n01 (decide (o < 0)))) (.string (str [])) q3 bel (by omega)
          refine bodyPost_ret (v := .tuple #[.agg #[.int .i64 1, .int .i64 (n01 (decide (o < 0))), .string (str [])], .int .i64 0]) (by simp [results, Tryd.results78, go_sem, r0, r1, r2, str_e]) rfl ⟨?_, bel2⟩
          rw [HR.out]; rfl
        · rw [if_pos ⟨by decide, hk⟩] at hR
          have hk2 : (k != k') = true := by simpa using hk
          clear hk
          have HR := Lib.hid hR
          clear hR
          go_enter Tryd.func78, Tryd.ntmps78
          go_wp2_with fail
          refine (M1 _).mono ?_
          rintro e w1 ⟨rfl, g⟩
          replace q1 := (g.block _ (lt_of_block q1)).trans q1
          replace q2 := (g.block _ (lt_of_block q2)).trans q2
          replace q3 := (g.block _ (lt_of_block q3)).trans q3
          replace bel := chain bel g
          clear g
          obtain ⟨q1c0, q1c1, q1c2⟩ := cells3 q1
          have q1l := lt_of_block q1
          obtain ⟨q2c0, q2c1, q2c2⟩ := cells3 q2
          have q2l := lt_of_block q2
          obtain ⟨q3c0, q3c1, q3c2⟩ := cells3 q3
          have q3l := lt_of_block q3
          go_wp2_with fail
          refine (M2 _).mono ?_
          rintro e w1 ⟨rfl, g⟩
          clear q1c0 q1c1 q1c2 q1l
          replace q1 := (g.block _ (lt_of_block q1)).trans q1
          clear q2c0 q2c1 q2c2 q2l
          replace q2 := (g.block _ (lt_of_block q2)).trans q2
          clear q3c0 q3c1 q3c2 q3l
          replace q3 := (g.block _ (lt_of_block q3)).trans q3
          replace bel := chain bel g
          clear g
          obtain ⟨q1c0, q1c1, q1c2⟩ := cells3 q1
          have q1l := lt_of_block q1
          obtain ⟨q2c0, q2c1, q2c2⟩ := cells3 q2
          have q2l := lt_of_block q2
          obtain ⟨q3c0, q3c1, q3c2⟩ := cells3 q3
          have q3l := lt_of_block q3
          have fz := frozen3 q3
          go_wp2_with fail
          obtain ⟨r0, r1, r2, bel2⟩ := set3 (.int .i64 0) (.int .i64 0) (.string (str [])) q3 bel (by omega)
          refine bodyPost_ret (v := .tuple #[.agg #[.int .i64 0, .int .i64 0, .string (str [])], .int .i64 10]) (by simp [results, Tryd.results78, go_sem, r0, r1, r2, str_e]) rfl ⟨?_, bel2⟩
          rw [HR.out]; rfl
      · rw [if_neg (by omega)] at hR
        by_cases hk : k = k'
        · rw [if_neg (by intro h; exact h.2 hk)] at hR
          have hk2 : (k != k') = false := by simpa using hk
          clear hk
          have ix : ∀ w, (Instr.index 125 (.agg #[.bool (o == 0), .bool (o != 0), .bool (decide (o < 0)), .bool (decide (o ≤ 0)), .bool (decide (0 < o)), .bool (decide (0 ≤ o))]) (.int .i64 3)).run Tryd.prog w = .ok (.bool (decide (o ≤ 0))) w := fun w => by kernel_rfl
          have HR := Lib.hid hR
          clear hR
          go_enter Tryd.func78, Tryd.ntmps78
          go_wp2_with fail
          refine (M1 _).mono ?_
          rintro e w1 ⟨rfl, g⟩
          replace q1 := (g.block _ (lt_of_block q1)).trans q1
          replace q2 := (g.block _ (lt_of_block q2)).trans q2
          replace q3 := (g.block _ (lt_of_block q3)).trans q3
          replace bel := chain bel g
          clear g
          obtain ⟨q1c0, q1c1, q1c2⟩ := cells3 q1
          have q1l := lt_of_block q1
          obtain ⟨q2c0, q2c1, q2c2⟩ := cells3 q2
          have q2l := lt_of_block q2
          obtain ⟨q3c0, q3c1, q3c2⟩ := cells3 q3
          have q3l := lt_of_block q3
          go_wp2_with fail
          refine (M2 _).mono ?_
          rintro e w1 ⟨rfl, g⟩
          clear q1c0 q1c1 q1c2 q1l
          replace q1 := (g.block _ (lt_of_block q1)).trans q1
          clear q2c0 q2c1 q2c2 q2l
          replace q2 := (g.block _ (lt_of_block q2)).trans q2
          clear q3c0 q3c1 q3c2 q3l
          replace q3 := (g.block _ (lt_of_block q3)).trans q3
          replace bel := chain bel g
          clear g
          obtain ⟨q1c0, q1c1, q1c2⟩ := cells3 q1
          have q1l := lt_of_block q1
          obtain ⟨q2c0, q2c1, q2c2⟩ := cells3 q2
          have q2l := lt_of_block q2
          obtain ⟨q3c0, q3c1, q3c2⟩ := cells3 q3
          have q3l := lt_of_block q3
          go_wp2_with fail
          refine (O _).mono ?_
          rintro e w2 ⟨rfl, g⟩
          clear q1c0 q1c1 q1c2 q1l
          replace q1 := (g.block _ (lt_of_block q1)).trans q1
          clear q2c0 q2c1 q2c2 q2l
          replace q2 := (g.block _ (lt_of_block q2)).trans q2
          clear q3c0 q3c1 q3c2 q3l
          replace q3 := (g.block _ (lt_of_block q3)).trans q3
          replace bel := chain bel g
          clear g
          obtain ⟨q1c0, q1c1, q1c2⟩ := cells3 q1
          have q1l := lt_of_block q1
          obtain ⟨q2c0, q2c1, q2c2⟩ := cells3 q2
          have q2l := lt_of_block q2
          obtain ⟨q3c0, q3c1, q3c2⟩ := cells3 q3
          have q3l := lt_of_block q3
          go_wp2_with fail
          refine (Bo (decide (o ≤ 0)) _).mono ?_
          rintro e w3 ⟨rfl, g⟩
          clear q1c0 q1c1 q1c2 q1l
          replace q1 := (g.block _ (lt_of_block q1)).trans q1
          clear q2c0 q2c1 q2c2 q2l
          replace q2 := (g.block _ (lt_of_block q2)).trans q2
          clear q3c0 q3c1 q3c2 q3l
          replace q3 := (g.block _ (lt_of_block q3)).trans q3
          replace bel := chain bel g
          clear g
          obtain ⟨q1c0, q1c1, q1c2⟩ := cells3 q1
          have q1l := lt_of_block q1
          obtain ⟨q2c0, q2c1, q2c2⟩ := cells3 q2
          have q2l := lt_of_block q2
          obtain ⟨q3c0, q3c1, q3c2⟩ := cells3 q3
          have q3l := lt_of_block q3
          have fz := frozen3 q3
          go_wp2_with fail
          obtain ⟨r0, r1, r2, bel2⟩ := set3 (.int .i64 1) (.int .i64 (n01 (decide (o ≤ 0)))) (.string (str [])) q3 bel (by omega)
          refine bodyPost_ret (v := .tuple #[.agg #[.int .i64 1, .int .i64 (n01 (decide (o ≤ 0))), .string (str [])], .int .i64 0]) (by simp [results, Tryd.results78, go_sem, r0, r1, r2, str_e]) rfl ⟨?_, bel2⟩
          rw [HR.out]; rfl
        · rw [if_pos ⟨by decide, hk⟩] at hR
          have hk2 : (k != k') = true := by simpa using hk
          clear hk
          have HR := Lib.hid hR
          clear hR
          go_enter Tryd.func78, Tryd.ntmps78
          go_wp2_with fail
          refine (M1 _).mono ?_
          rintro e w1 ⟨rfl, g⟩
          replace q1 := (g.block _ (lt_of_block q1)).trans q1
          replace q2 := (g.block _ (lt_of_block q2)).trans q2
          replace q3 := (g.block _ (lt_of_block q3)).trans q3
          replace bel := chain bel g
          clear g
          obtain ⟨q1c0, q1c1, q1c2⟩ := cells3 q1
          have q1l := lt_of_block q1
          obtain ⟨q2c0, q2c1, q2c2⟩ := cells3 q2
          have q2l := lt_of_block q2
          obtain ⟨q3c0, q3c1, q3c2⟩ := cells3 q3
          have q3l := lt_of_block q3
          go_wp2_with fail
          refine (M2 _).mono ?_
          rintro e w1 ⟨rfl, g⟩
          clear q1c0 q1c1 q1c2 q1l
          replace q1 := (g.block _ (lt_of_block q1)).trans q1
          clear q2c0 q2c1 q2c2 q2l
          replace q2 := (g.block _ (lt_of_block q2)).trans q2
          clear q3c0 q3c1 q3c2 q3l
          replace q3 := (g.block _ (lt_of_block q3)).trans q3
          replace bel := chain bel g
          clear g
          obtain ⟨q1c0, q1c1, q1c2⟩ := cells3 q1
          have q1l := lt_of_block q1
          obtain ⟨q2c0, q2c1, q2c2⟩ := cells3 q2
          have q2l := lt_of_block q2
          obtain ⟨q3c0, q3c1, q3c2⟩ := cells3 q3
          have q3l := lt_of_block q3
          have fz := frozen3 q3
          go_wp2_with fail
          obtain ⟨r0, r1, r2, bel2⟩ := set3 (.int .i64 0) (.int .i64 0) (.string (str [])) q3 bel (by omega)
          refine bodyPost_ret (v := .tuple #[.agg #[.int .i64 0, .int .i64 0, .string (str [])], .int .i64 10]) (by simp [results, Tryd.results78, go_sem, r0, r1, r2, str_e]) rfl ⟨?_, bel2⟩
          rw [HR.out]; rfl
      · rw [if_neg (by omega)] at hR
        by_cases hk : k = k'
        · rw [if_neg (by intro h; exact h.2 hk)] at hR
          have hk2 : (k != k') = false := by simpa using hk
          clear hk
          have ix : ∀ w, (Instr.index 125 (.agg #[.bool (o == 0), .bool (o != 0), .bool (decide (o < 0)), .bool (decide (o ≤ 0)), .bool (decide (0 < o)), .bool (decide (0 ≤ o))]) (.int .i64 4)).run Tryd.prog w = .ok (.bool (decide (0 < o))) w := fun w => by kernel_rfl
          have HR := Lib.hid hR
          clear hR
          go_enter Tryd.func78, Tryd.ntmps78
          go_wp2_with fail
          refine (M1 _).mono ?_
          rintro e w1 ⟨rfl, g⟩
          replace q1 := (g.block _ (lt_of_block q1)).trans q1
          replace q2 := (g.block _ (lt_of_block q2)).trans q2
          replace q3 := (g.block _ (lt_of_block q3)).trans q3
          replace bel := chain bel g
          clear g
          obtain ⟨q1c0, q1c1, q1c2⟩ := cells3 q1
          have q1l := lt_of_block q1
          obtain ⟨q2c0, q2c1, q2c2⟩ := cells3 q2
          have q2l := lt_of_block q2
          obtain ⟨q3c0, q3c1, q3c2⟩ := cells3 q3
          have q3l := lt_of_block q3
          go_wp2_with fail
          refine (M2 _).mono ?_
          rintro e w1 ⟨rfl, g⟩
          clear q1c0 q1c1 q1c2 q1l
          replace q1 := (g.block _ (lt_of_block q1)).trans q1
          clear q2c0 q2c1 q2c2 q2l
          replace q2 := (g.block _ (lt_of_block q2)).trans q2
          clear q3c0 q3c1 q3c2 q3l
          replace q3 := (g.block _ (lt_of_block q3)).trans q3
          replace bel := chain bel g
          clear g
          obtain ⟨q1c0, q1c1, q1c2⟩ := cells3 q1
          have q1l := lt_of_block q1
          obtain ⟨q2c0, q2c1, q2c2⟩ := cells3 q2
          have q2l := lt_of_block q2
          obtain ⟨q3c0, q3c1, q3c2⟩ := cells3 q3
          have q3l := lt_of_block q3
          go_wp2_with fail
          refine (O _).mono ?_
          rintro e w2 ⟨rfl, g⟩
          clear q1c0 q1c1 q1c2 q1l
          replace q1 := (g.block _ (lt_of_block q1)).trans q1
          clear q2c0 q2c1 q2c2 q2l
          replace q2 := (g.block _ (lt_of_block q2)).trans q2
          clear q3c0 q3c1 q3c2 q3l
          replace q3 := (g.block _ (lt_of_block q3)).trans q3
          replace bel := chain bel g
          clear g
          obtain ⟨q1c0, q1c1, q1c2⟩ := cells3 q1
          have q1l := lt_of_block q1
          obtain ⟨q2c0, q2c1, q2c2⟩ := cells3 q2
          have q2l := lt_of_block q2
          obtain ⟨q3c0, q3c1, q3c2⟩ := cells3 q3
          have q3l := lt_of_block q3
          go_wp2_with fail
          refine (Bo (decide (0 < o)) _).mono ?_
          rintro e w3 ⟨rfl, g⟩
          clear q1c0 q1c1 q1c2 q1l
          replace q1 := (g.block _ (lt_of_block q1)).trans q1
          clear q2c0 q2c1 q2c2 q2l
          replace q2 := (g.block _ (lt_of_block q2)).trans q2
          clear q3c0 q3c1 q3c2 q3l
          replace q3 := (g.block _ (lt_of_block q3)).trans q3
          replace bel := chain bel g
          clear g
          obtain ⟨q1c0, q1c1, q1c2⟩ := cells3 q1
          have q1l := lt_of_block q1
          obtain ⟨q2c0, q2c1, q2c2⟩ := cells3 q2
          have q2l := lt_of_block q2
          obtain ⟨q3c0, q3c1, q3c2⟩ := cells3 q3
          have q3l := lt_of_block q3
          have fz := frozen3 q3
          go_wp2_with fail
          obtain ⟨r0, r1, r2, bel2⟩ := set3 (.int .i64 1) (.int .i64 (n01 (decide (0 < o)))) (.string (str [])) q3 bel (by omega)
          refine bodyPost_ret (v := .tuple #[.agg #[.int .i64 1, .int .i64 (n01 (decide (0 < o))), .string (str [])], .int .i64 0]) (by simp [results, Tryd.results78, go_sem, r0, r1, r2, str_e]) rfl ⟨?_, bel2⟩
          rw [HR.out]; rfl
        · rw [if_pos ⟨by decide, hk⟩] at hR
          have hk2 : (k != k') = true := by simpa using hk
          clear hk
          have HR := Lib.hid hR
          clear hR
          go_enter Tryd.func78, Tryd.ntmps78
          go_wp2_with fail
          refine (M1 _).mono ?_
          rintro e w1 ⟨rfl, g⟩
          replace q1 := (g.block _ (lt_of_block q1)).trans q1
          replace q2 := (g.block _ (lt_of_block q2)).trans q2
          replace q3 := (g.block _ (lt_of_block q3)).trans q3
          replace bel := chain bel g
          clear g
          obtain ⟨q1c0, q1c1, q1c2⟩ := cells3 q1
          have q1l := lt_of_block q1
          obtain ⟨q2c0, q2c1, q2c2⟩ := cells3 q2
          have q2l := lt_of_block q2
          obtain ⟨q3c0, q3c1, q3c2⟩ := cells3 q3
          have q3l := lt_of_block q3
          go_wp2_with fail
          refine (M2 _).mono ?_
          rintro e w1 ⟨rfl, g⟩
          clear q1c0 q1c1 q1c2 q1l
          replace q1 := (g.block _ (lt_of_block q1)).trans q1
          clear q2c0 q2c1 q2c2 q2l
          replace q2 := (g.block _ (lt_of_block q2)).trans q2
          clear q3c0 q3c1 q3c2 q3l
          replace q3 := (g.block _ (lt_of_block q3)).trans q3
          replace bel := chain bel g
          clear g
          obtain ⟨q1c0, q1c1, q1c2⟩ := cells3 q1
          have q1l := lt_of_block q1
          obtain ⟨q2c0, q2c1, q2c2⟩ := cells3 q2
          have q2l := lt_of_block q2
          obtain ⟨q3c0, q3c1, q3c2⟩ := cells3 q3
          have q3l := lt_of_block q3
          have fz := frozen3 q3
          go_wp2_with fail
          obtain ⟨r0, r1, r2, bel2⟩ := set3 (.int .i64 0) (.int .i64 0) (.string (str [])) q3 bel (by omega)
          refine bodyPost_ret (v := .tuple #[.agg #[.int .i64 0, .int .i64 0, .string (str [])], .int .i64 10]) (by simp [results, Tryd.results78, go_sem, r0, r1, r2, str_e]) rfl ⟨?_, bel2⟩
          rw [HR.out]; rfl
      · rw [if_neg (by omega)] at hR
        by_cases hk : k = k'
        · rw [if_neg (by intro h; exact h.2 hk)] at hR
          have hk2 : (k != k') = false := by simpa using hk
          clear hk
          have ix : ∀ w, (Instr.index 125 (.agg #[.bool (o == 0), .bool (o != 0), .bool (decide (o < 0)), .bool (decide (o ≤ 0)), .bool (decide (0 < o)), .bool (decide (0 ≤ o))]) (.int .i64 5)).run Tryd.prog w = .ok (.bool (decide (0 ≤ o))) w := fun w => by kernel_rfl
          have HR := Lib.hid hR
          clear hR
          go_enter Tryd.func78, Tryd.ntmps78
          go_wp2_with fail
          refine (M1 _).mono ?_
          rintro e w1 ⟨rfl, g⟩
          replace q1 := (g.block _ (lt_of_block q1)).trans q1
          replace q2 := (g.block _ (lt_of_block q2)).trans q2
          replace q3 := (g.block _ (lt_of_block q3)).trans q3
          replace bel := chain bel g
          clear g
          obtain ⟨q1c0, q1c1, q1c2⟩ := cells3 q1
          have q1l := lt_of_block q1
          obtain ⟨q2c0, q2c1, q2c2⟩ := cells3 q2
          have q2l := lt_of_block q2
          obtain ⟨q3c0, q3c1, q3c2⟩ := cells3 q3
          have q3l := lt_of_block q3
          go_wp2_with fail
          refine (M2 _).mono ?_
          rintro e w1 ⟨rfl, g⟩
          clear q1c0 q1c1 q1c2 q1l
          replace q1 := (g.block _ (lt_of_block q1)).trans q1
          clear q2c0 q2c1 q2c2 q2l
          replace q2 := (g.block _ (lt_of_block q2)).trans q2
          clear q3c0 q3c1 q3c2 q3l
          replace q3 := (g.block _ (lt_of_block q3)).trans q3
          replace bel := chain bel g
          clear g
          obtain ⟨q1c0, q1c1, q1c2⟩ := cells3 q1
          have q1l := lt_of_block q1
          obtain ⟨q2c0, q2c1, q2c2⟩ := cells3 q2
          have q2l := lt_of_block q2
          obtain ⟨q3c0, q3c1, q3c2⟩ := cells3 q3
          have q3l := lt_of_block q3
          go_wp2_with fail
          refine (O _).mono ?_
          rintro e w2 ⟨rfl, g⟩
          clear q1c0 q1c1 q1c2 q1l
          replace q1 := (g.block _ (lt_of_block q1)).trans q1
          clear q2c0 q2c1 q2c2 q2l
          replace q2 := (g.block _ (lt_of_block q2)).trans q2
          clear q3c0 q3c1 q3c2 q3l
          replace q3 := (g.block _ (lt_of_block q3)).trans q3
          replace bel := chain bel g
          clear g
          obtain ⟨q1c0, q1c1, q1c2⟩ := cells3 q1
          have q1l := lt_of_block q1
          obtain ⟨q2c0, q2c1, q2c2⟩ := cells3 q2
          have q2l := lt_of_block q2
          obtain ⟨q3c0, q3c1, q3c2⟩ := cells3 q3
          have q3l := lt_of_block q3
          go_wp2_with fail
          refine (Bo (decide (0 ≤ o)) _).mono ?_
          rintro e w3 ⟨rfl, g⟩
          clear q1c0 q1c1 q1c2 q1l
          replace q1 := (g.block _ (lt_of_block q1)).trans q1
          clear q2c0 q2c1 q2c2 q2l
          replace q2 := (g.block _ (lt_of_block q2)).trans q2
          clear q3c0 q3c1 q3c2 q3l
          replace q3 := (g.block _ (lt_of_block q3)).trans q3
          replace bel := chain bel g
          clear g
          obtain ⟨q1c0, q1c1, q1c2⟩ := cells3 q1
          have q1l := lt_of_block q1
          obtain ⟨q2c0, q2c1, q2c2⟩ := cells3 q2
          have q2l := lt_of_block q2
          obtain ⟨q3c0, q3c1, q3c2⟩ := cells3 q3
          have q3l := lt_of_block q3
          have fz := frozen3 q3
          go_wp2_with fail
          obtain ⟨r0, r1, r2, bel2⟩ := set3 (.int .i64 1) (.int .i64 (n01 (decide (0 ≤ o)))) (.string (str [])) q3 bel (by omega)
          refine bodyPost_ret (v := .tuple #[.agg #[.int .i64 1, .int .i64 (n01 (decide (0 ≤ o))), .string (str [])], .int .i64 0]) (by simp [results, Tryd.results78, go_sem, r0, r1, r2, str_e]) rfl ⟨?_, bel2⟩
          rw [HR.out]; rfl
        · rw [if_pos ⟨by decide, hk⟩] at hR
          have hk2 : (k != k') = true := by simpa using hk
          clear hk
          have HR := Lib.hid hR
          clear hR
          go_enter Tryd.func78, Tryd.ntmps78
          go_wp2_with fail
          refine (M1 _).mono ?_
          rintro e w1 ⟨rfl, g⟩
          replace q1 := (g.block _ (lt_of_block q1)).trans q1
          replace q2 := (g.block _ (lt_of_block q2)).trans q2
          replace q3 := (g.block _ (lt_of_block q3)).trans q3
          replace bel := chain bel g
          clear g
          obtain ⟨q1c0, q1c1, q1c2⟩ := cells3 q1
          have q1l := lt_of_block q1
          obtain ⟨q2c0, q2c1, q2c2⟩ := cells3 q2
          have q2l := lt_of_block q2
          obtain ⟨q3c0, q3c1, q3c2⟩ := cells3 q3
          have q3l := lt_of_block q3
          go_wp2_with fail
          refine (M2 _).mono ?_
          rintro e w1 ⟨rfl, g⟩
          clear q1c0 q1c1 q1c2 q1l
          replace q1 := (g.block _ (lt_of_block q1)).trans q1
          clear q2c0 q2c1 q2c2 q2l
          replace q2 := (g.block _ (lt_of_block q2)).trans q2
          clear q3c0 q3c1 q3c2 q3l
          replace q3 := (g.block _ (lt_of_block q3)).trans q3
          replace bel := chain bel g
          clear g
          obtain ⟨q1c0, q1c1, q1c2⟩ := cells3 q1
          have q1l := lt_of_block q1
          obtain ⟨q2c0, q2c1, q2c2⟩ := cells3 q2
          have q2l := lt_of_block q2
          obtain ⟨q3c0, q3c1, q3c2⟩ := cells3 q3
          have q3l := lt_of_block q3
          have fz := frozen3 q3
          go_wp2_with fail
          obtain ⟨r0, r1, r2, bel2⟩ := set3 (.int .i64 0) (.int .i64 0) (.string (str [])) q3 bel (by omega)
          refine bodyPost_ret (v := .tuple #[.agg #[.int .i64 0, .int .i64 0, .string (str [])], .int .i64 10]) (by simp [results, Tryd.results78, go_sem, r0, r1, r2, str_e]) rfl ⟨?_, bel2⟩
          rw [HR.out]; rfl
end Go.Proofs.YtcehgfganjdghaaDoor.V7
