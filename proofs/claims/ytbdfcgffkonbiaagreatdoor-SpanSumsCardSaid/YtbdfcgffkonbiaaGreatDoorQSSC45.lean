/- Leaves: the document's Same, longer lists. -/
/- Values: the document's sum of two numbers (out of stage 7's texts). Written by wip/tools/genz7.py. -/
import Derived.Test.YtbdfcgffkonbiaaGreatDoorQSSC13
import Derived.Test.YtbdfcgffkonbiaaGreatDoorQSSC19
import Derived.Test.YtbdfcgffkonbiaaGreatDoorQSSC10
import Derived.Test.YtbdfcgffkonbiaaGreatDoorQSSC21
import Derived.Test.YtbdfcgffkonbiaaGreatDoorQSSC25
namespace Go.Proofs.YtbdfcgffkonbiaaGreatDoor
open Go Go.RowKit
set_option linter.unusedVariables false
set_option linter.unusedSimpArgs false
end Go.Proofs.YtbdfcgffkonbiaaGreatDoor
namespace Go.Proofs.YtbdfcgffkonbiaaGreatDoor.V7
open Go Go.RowKit
set_option linter.unusedVariables false
set_option linter.unusedSimpArgs false
theorem three_allocs (w : World) (a b c : Obj) :
    (((w.alloc a).alloc b).alloc c).heap[w.heap.size]? = some a ∧ (((w.alloc a).alloc b).alloc c).heap[w.heap.size + 1]? = some b ∧ (((w.alloc a).alloc b).alloc c).heap[w.heap.size + 2]? = some c := by
  have z2 : ((w.alloc a).alloc b).heap.size = w.heap.size + 2 := by simp
  obtain ⟨h1, h2, -, -⟩ := two_allocs w a b
  refine ⟨?_, ?_, ?_⟩
  · rw [heap_alloc_old _ _ (by omega), h1]
  · rw [heap_alloc_old _ _ (by omega), h2]
  · rw [← z2, heap_alloc_new]
theorem frozen3 {w : World} {B : Nat} {cs : Array Value} {t : TypeId} (h : w.heap[B]? = some (.cells cs t (0, 0))) : ∀ i, w.frozen? ⟨B, i, none⟩ = false := fun i => block_frozen h i
theorem set3 {w : World} {B n : Nat} {v : World} {a0 a1 a2 : Value} (u0 u1 u2 : Value) {t : TypeId} (h : w.heap[B]? = some (.cells #[a0, a1, a2] t (0, 0))) (hb : Below n v w) (hn : n ≤ B) :
    (((w.setCell ⟨B, 0, none⟩ u0).setCell ⟨B, 1, none⟩ u1).setCell ⟨B, 2, none⟩ u2).cell? ⟨B, 0, none⟩ = some u0 ∧ (((w.setCell ⟨B, 0, none⟩ u0).setCell ⟨B, 1, none⟩ u1).setCell ⟨B, 2, none⟩ u2).cell? ⟨B, 1, none⟩ = some u1 ∧ (((w.setCell ⟨B, 0, none⟩ u0).setCell ⟨B, 1, none⟩ u1).setCell ⟨B, 2, none⟩ u2).cell? ⟨B, 2, none⟩ = some u2 ∧
      Below n v (((w.setCell ⟨B, 0, none⟩ u0).setCell ⟨B, 1, none⟩ u1).setCell ⟨B, 2, none⟩ u2) := by
  have h3 : (((w.setCell ⟨B, 0, none⟩ u0).setCell ⟨B, 1, none⟩ u1).setCell ⟨B, 2, none⟩ u2).heap[B]? = some (.cells #[u0, u1, u2] t (0, 0)) := by
    simpa using set_at (i := 2) (u := u2) (set_at (i := 1) (u := u1) (set_at (i := 0) (u := u0) h))
  obtain ⟨c0, c1, c2⟩ := cells3 h3
  exact ⟨c0, c1, c2, ((hb.setCell (p := ⟨B, 0, none⟩) hn u0).setCell (p := ⟨B, 1, none⟩) hn u1).setCell (p := ⟨B, 2, none⟩) hn u2⟩
theorem half_neg (a : Int) (h : a < 0) : a.tdiv 4294967296 = -((-a) / 4294967296) ∧ a.tmod 4294967296 = -((-a) % 4294967296) := by
  obtain ⟨b, rfl⟩ : ∃ b : Nat, a = -(b : Int) := ⟨a.natAbs, by omega⟩
  rw [Int.neg_tdiv, Int.neg_tmod, Int.neg_neg, Int.tdiv_eq_ediv_of_nonneg (by omega), Int.tmod_eq_emod_of_nonneg (by omega)]
  exact ⟨rfl, rfl⟩
theorem ret_two {k k' : IntKind} {a b a' b' : Int} (h : a = a') (h' : b = b') : Ending.returned (.tuple #[.int k a, .int k' b]) = Ending.returned (.tuple #[.int k a', .int k' b']) := by rw [h, h']
theorem half_at (a q r : Int) (hf : fits a) (hq : Hid (q = a / 4294967296)) (hr : Hid (r = a % 4294967296)) (w : World) :
    Calls Tryz.prog 64 #[.int .i64 a] w fun e w' => e = .returned (.tuple #[.int .i64 q, .int .i64 r]) ∧ w = w' := by
  obtain ⟨f1, f2⟩ := hf
  by_cases h : 0 ≤ a
  · go_enter Tryz.func64, Tryz.ntmps64
    go_wp2_with fail
    go_ret2
    exact ⟨ret_two hq.out.symm hr.out.symm, rfl⟩
  · obtain ⟨e1, e2⟩ := half_neg a (by omega)
    obtain ⟨Q, hQ⟩ : ∃ Q, Q = -((-a) / 4294967296) := ⟨_, rfl⟩
    obtain ⟨R, hR⟩ : ∃ R, R = -((-a) % 4294967296) := ⟨_, rfl⟩
    rw [← hQ] at e1
    rw [← hR] at e2
    have b1 : -2147483648 ≤ Q := by omega
    have b2 : Q ≤ 0 := by omega
    have b3 : -4294967296 < R := by omega
    have b4 : R ≤ 0 := by omega
    have HQ := Lib.hid hQ
    have HR := Lib.hid hR
    clear hQ hR
    by_cases hz : R < 0
    · go_enter Tryz.func64, Tryz.ntmps64
      go_wp2_with fail
      go_ret2
      refine ⟨ret_two ?_ ?_, rfl⟩
      · have := HQ.out; have := HR.out; have := hq.out; omega
      · have := HQ.out; have := HR.out; have := hr.out; omega
    · go_enter Tryz.func64, Tryz.ntmps64
      go_wp2_with fail
      go_ret2
      refine ⟨ret_two ?_ ?_, rfl⟩
      · have := HQ.out; have := HR.out; have := hq.out; omega
      · have := HQ.out; have := HR.out; have := hr.out; omega
/-- The halves of a number. -/
theorem halves (a : Int) (h : fits a) : ∃ q r : Int, Hid (q = a / 4294967296) ∧ Hid (r = a % 4294967296) ∧ Hid (a = q * 4294967296 + r) ∧ -2147483648 ≤ q ∧ q ≤ 2147483647 ∧ 0 ≤ r ∧ r < 4294967296 := by
  obtain ⟨f1, f2⟩ := h
  exact ⟨a / 4294967296, a % 4294967296, rfl, rfl, by show a = _; omega, by omega, by omega, by omega, by omega⟩
theorem ret_nb {a a' : Int} {b b' : Bool} (h : a = a') (h' : b = b') : Ending.returned (.tuple #[.int .i64 a, .bool b]) = Ending.returned (.tuple #[.int .i64 a', .bool b']) := by rw [h, h']
set_option maxRecDepth 100000 in
theorem sum_yes (a b : Int) (ha : fits a) (hb : fits b) (h : fits (a + b)) (w : World) :
    Calls Tryz.prog 44 #[.int .i64 a, .int .i64 b] w fun e w' => e = .returned (.tuple #[.int .i64 (a + b), .bool true]) ∧ w = w' := by
  obtain ⟨ah, al, x1, x2, x3, x4, x5, x6, x7⟩ := halves a ha
  obtain ⟨bh, bl, y1, y2, y3, y4, y5, y6, y7⟩ := halves b hb
  have HA := fun w => half_at a ah al ha x1 x2 w
  have HB := fun w => half_at b bh bl hb y1 y2 w
  obtain ⟨h1, h2⟩ := h
  have t1 : -2147483648 ≤ ah + bh + (al + bl) / 4294967296 := by have := x3.out; have := y3.out; omega
  have t2 : ah + bh + (al + bl) / 4294967296 ≤ 2147483647 := by have := x3.out; have := y3.out; omega
  clear h1 h2 x1 x2 y1 y2 ha hb
  go_enter Tryz.func44, Tryz.ntmps44
  go_wp2_with fail
  refine (HA _).mono ?_
  rintro e w' ⟨rfl, rfl⟩
  go_wp2_with fail
  refine (HB _).mono ?_
  rintro e w' ⟨rfl, rfl⟩
  go_wp2_with fail
  go_ret2
  refine ⟨ret_nb ?_ rfl, rfl⟩
  have := x3.out; have := y3.out; omega
set_option maxRecDepth 100000 in
theorem sum_no (a b : Int) (ha : fits a) (hb : fits b) (h : ¬ fits (a + b)) (w : World) :
    Calls Tryz.prog 44 #[.int .i64 a, .int .i64 b] w fun e w' => e = .returned (.tuple #[.int .i64 0, .bool false]) ∧ w = w' := by
  obtain ⟨ah, al, x1, x2, x3, x4, x5, x6, x7⟩ := halves a ha
  obtain ⟨bh, bl, y1, y2, y3, y4, y5, y6, y7⟩ := halves b hb
  have HA := fun w => half_at a ah al ha x1 x2 w
  have HB := fun w => half_at b bh bl hb y1 y2 w
  have t : ah + bh + (al + bl) / 4294967296 < -2147483648 ∨ 2147483647 < ah + bh + (al + bl) / 4294967296 := by
    have := x3.out; have := y3.out
    unfold fits at h
    omega
  clear h x1 x2 y1 y2 ha hb
  rcases t with t | t
  all_goals
    go_enter Tryz.func44, Tryz.ntmps44
    go_wp2_with fail
    refine (HA _).mono ?_
    rintro e w' ⟨rfl, rfl⟩
    go_wp2_with fail
    refine (HB _).mono ?_
    rintro e w' ⟨rfl, rfl⟩
    go_wp2_with fail
    go_ret2
    exact ⟨ret_nb rfl rfl, rfl⟩
set_option maxRecDepth 100000 in
set_option maxHeartbeats 2000000 in
theorem two_sum_yes (z : Int) (k i : Int) (s : List UInt8) (k' i' : Int) (s' : List UInt8) (w : World)
    (M1 : ∀ w, Calls Tryz.prog 43 #[.agg #[.int .i64 k, .int .i64 i, .string (str s)]] w fun e w' => e = .returned (.bool true) ∧ Below w.heap.size w w')
    (M2 : ∀ w, Calls Tryz.prog 43 #[.agg #[.int .i64 k', .int .i64 i', .string (str s')]] w fun e w' => e = .returned (.bool true) ∧ Below w.heap.size w w')
    (CAL : ∀ w, Calls Tryz.prog 44 #[.int .i64 i, .int .i64 i'] w fun e w' => e = .returned (.tuple #[.int .i64 z, .bool true]) ∧ w = w')
    (hk : (k != 2) = false) (hk' : (k' != 2) = false) :
    Calls Tryz.prog 23 #[.int .i64 0, .agg #[.int .i64 k, .int .i64 i, .string (str s)], .agg #[.int .i64 k', .int .i64 i', .string (str s')]] w fun e w' => e = .returned (.tuple #[.agg #[.int .i64 2, .int .i64 z, .string (str [])], .int .i64 0]) ∧ Below w.heap.size w w' := by
  obtain ⟨q1, q2, q3⟩ := three_allocs w (.cells #[.int .i64 k, .int .i64 i, .string (str s)] 46) (.cells #[.int .i64 k', .int .i64 i', .string (str s')] 46) (.cells #[.int .i64 0, .int .i64 0, .string (str [])] 46)
  have bel : Below w.heap.size w (((w.alloc (.cells #[.int .i64 k, .int .i64 i, .string (str s)] 46)).alloc (.cells #[.int .i64 k', .int .i64 i', .string (str s')] 46)).alloc (.cells #[.int .i64 0, .int .i64 0, .string (str [])] 46)) := (((Below.refl _ w).alloc (Nat.le_refl _) _).alloc (by simp) _).alloc (by simp; omega) _
  go_enter Tryz.func23, Tryz.ntmps23
  have RI := refInt_any
  go_wp2_with fail
  refine (M1 _).mono ?_
  rintro e w1 ⟨rfl, g⟩
  replace q1 := (g.block _ (lt_of_block q1)).trans q1
  replace q2 := (g.block _ (lt_of_block q2)).trans q2
  replace q3 := (g.block _ (lt_of_block q3)).trans q3
  replace bel := chain bel g
  clear g
  obtain ⟨q1c0, q1c1, q1c2⟩ := cells3 q1
  have q1l := lt_of_block q1
  obtain ⟨q2c0, q2c1, q2c2⟩ := cells3 q2
  have q2l := lt_of_block q2
  obtain ⟨q3c0, q3c1, q3c2⟩ := cells3 q3
  have q3l := lt_of_block q3
  go_wp2_with fail
  refine (M2 _).mono ?_
  rintro e w1 ⟨rfl, g⟩
  clear q1c0 q1c1 q1c2 q1l
  replace q1 := (g.block _ (lt_of_block q1)).trans q1
  clear q2c0 q2c1 q2c2 q2l
  replace q2 := (g.block _ (lt_of_block q2)).trans q2
  clear q3c0 q3c1 q3c2 q3l
  replace q3 := (g.block _ (lt_of_block q3)).trans q3
  replace bel := chain bel g
  clear g
  obtain ⟨q1c0, q1c1, q1c2⟩ := cells3 q1
  have q1l := lt_of_block q1
  obtain ⟨q2c0, q2c1, q2c2⟩ := cells3 q2
  have q2l := lt_of_block q2
  obtain ⟨q3c0, q3c1, q3c2⟩ := cells3 q3
  have q3l := lt_of_block q3
  go_wp2_with fail
  refine (CAL _).mono ?_
  rintro e w9 ⟨rfl, rfl⟩
  go_wp2_with fail
  refine (RI _ _).mono ?_
  rintro e w2 ⟨rfl, g⟩
  clear q1c0 q1c1 q1c2 q1l
  replace q1 := (g.block _ (lt_of_block q1)).trans q1
  clear q2c0 q2c1 q2c2 q2l
  replace q2 := (g.block _ (lt_of_block q2)).trans q2
  clear q3c0 q3c1 q3c2 q3l
  replace q3 := (g.block _ (lt_of_block q3)).trans q3
  replace bel := chain bel g
  clear g
  obtain ⟨q1c0, q1c1, q1c2⟩ := cells3 q1
  have q1l := lt_of_block q1
  obtain ⟨q2c0, q2c1, q2c2⟩ := cells3 q2
  have q2l := lt_of_block q2
  obtain ⟨q3c0, q3c1, q3c2⟩ := cells3 q3
  have q3l := lt_of_block q3
  have fz := frozen3 q3
  go_wp2_with fail
  obtain ⟨r0, r1, r2, bel2⟩ := set3 (.int .i64 2) (.int .i64 z) (.string (str [])) q3 bel (by omega)
  refine bodyPost_ret (v := .tuple #[.agg #[.int .i64 2, .int .i64 z, .string (str [])], .int .i64 0]) (by simp [results, Tryz.results23, go_sem, r0, r1, r2, str_e]) rfl ⟨rfl, bel2⟩
set_option maxRecDepth 100000 in
set_option maxHeartbeats 2000000 in
theorem two_sum_no (z : Int) (k i : Int) (s : List UInt8) (k' i' : Int) (s' : List UInt8) (w : World)
    (M1 : ∀ w, Calls Tryz.prog 43 #[.agg #[.int .i64 k, .int .i64 i, .string (str s)]] w fun e w' => e = .returned (.bool true) ∧ Below w.heap.size w w')
    (M2 : ∀ w, Calls Tryz.prog 43 #[.agg #[.int .i64 k', .int .i64 i', .string (str s')]] w fun e w' => e = .returned (.bool true) ∧ Below w.heap.size w w')
    (CAL : ∀ w, Calls Tryz.prog 44 #[.int .i64 i, .int .i64 i'] w fun e w' => e = .returned (.tuple #[.int .i64 z, .bool false]) ∧ w = w')
    (hk : (k != 2) = false) (hk' : (k' != 2) = false) :
    Calls Tryz.prog 23 #[.int .i64 0, .agg #[.int .i64 k, .int .i64 i, .string (str s)], .agg #[.int .i64 k', .int .i64 i', .string (str s')]] w fun e w' => e = .returned (.tuple #[.agg #[.int .i64 0, .int .i64 0, .string (str [])], .int .i64 8]) ∧ Below w.heap.size w w' := by
  obtain ⟨q1, q2, q3⟩ := three_allocs w (.cells #[.int .i64 k, .int .i64 i, .string (str s)] 46) (.cells #[.int .i64 k', .int .i64 i', .string (str s')] 46) (.cells #[.int .i64 0, .int .i64 0, .string (str [])] 46)
  have bel : Below w.heap.size w (((w.alloc (.cells #[.int .i64 k, .int .i64 i, .string (str s)] 46)).alloc (.cells #[.int .i64 k', .int .i64 i', .string (str s')] 46)).alloc (.cells #[.int .i64 0, .int .i64 0, .string (str [])] 46)) := (((Below.refl _ w).alloc (Nat.le_refl _) _).alloc (by simp) _).alloc (by simp; omega) _
  go_enter Tryz.func23, Tryz.ntmps23
  go_wp2_with fail
  refine (M1 _).mono ?_
  rintro e w1 ⟨rfl, g⟩
  replace q1 := (g.block _ (lt_of_block q1)).trans q1
  replace q2 := (g.block _ (lt_of_block q2)).trans q2
  replace q3 := (g.block _ (lt_of_block q3)).trans q3
  replace bel := chain bel g
  clear g
  obtain ⟨q1c0, q1c1, q1c2⟩ := cells3 q1
  have q1l := lt_of_block q1
  obtain ⟨q2c0, q2c1, q2c2⟩ := cells3 q2
  have q2l := lt_of_block q2
  obtain ⟨q3c0, q3c1, q3c2⟩ := cells3 q3
  have q3l := lt_of_block q3
  go_wp2_with fail
  refine (M2 _).mono ?_
  rintro e w1 ⟨rfl, g⟩
  clear q1c0 q1c1 q1c2 q1l
  replace q1 := (g.block _ (lt_of_block q1)).trans q1
  clear q2c0 q2c1 q2c2 q2l
  replace q2 := (g.block _ (lt_of_block q2)).trans q2
  clear q3c0 q3c1 q3c2 q3l
  replace q3 := (g.block _ (lt_of_block q3)).trans q3
  replace bel := chain bel g
  clear g
  obtain ⟨q1c0, q1c1, q1c2⟩ := cells3 q1
  have q1l := lt_of_block q1
  obtain ⟨q2c0, q2c1, q2c2⟩ := cells3 q2
  have q2l := lt_of_block q2
  obtain ⟨q3c0, q3c1, q3c2⟩ := cells3 q3
  have q3l := lt_of_block q3
  go_wp2_with fail
  refine (CAL _).mono ?_
  rintro e w9 ⟨rfl, rfl⟩
  have fz := frozen3 q3
  go_wp2_with fail
  obtain ⟨r0, r1, r2, bel2⟩ := set3 (.int .i64 0) (.int .i64 0) (.string (str [])) q3 bel (by omega)
  refine bodyPost_ret (v := .tuple #[.agg #[.int .i64 0, .int .i64 0, .string (str [])], .int .i64 8]) (by simp [results, Tryz.results23, go_sem, r0, r1, r2, str_e]) rfl ⟨rfl, bel2⟩
end Go.Proofs.YtbdfcgffkonbiaaGreatDoor.V7
