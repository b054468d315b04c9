/- Values: which is ahead. Written by wip/tools/gen7e.py. -/
import Derived.Test.YthakimgpaemfeaaV07D
namespace Go.Proofs.Ythakimgpaemfeaa
open Go.RowKit
set_option linter.unusedVariables false
set_option linter.unusedSimpArgs false
theorem cells3 {w : World} {B : Nat} {a0 a1 a2 : Value} {t : TypeId} (h : w.heap[B]? = some (.cells #[a0, a1, a2] t (0, 0))) :
    w.cell? ⟨B, 0, none⟩ = some a0 ∧ w.cell? ⟨B, 1, none⟩ = some a1 ∧ w.cell? ⟨B, 2, none⟩ = some a2 := by
  refine ⟨?_, ?_, ?_⟩
  all_goals simp [World.cell?, h]
def lessB (a b : V) : Bool := mayB a && mayB b && decide (ordV a b < 0)
set_option maxRecDepth 100000 in
set_option maxHeartbeats 400000 in
theorem less_any (k i : Int) (s : List UInt8) (k' i' : Int) (s' : List UInt8) (w : World) (hs : s.length ≤ maxLen) (hs' : s'.length ≤ maxLen) :
    Calls Try.prog 15 #[.agg #[.int .i64 k, .int .i64 i, .string (str s)], .agg #[.int .i64 k', .int .i64 i', .string (str s')]] w fun e w' => e = .returned (.bool (lessB ⟨k, i, s⟩ ⟨k', i', s'⟩)) ∧ Below w.heap.size w w' := by
  have M1 := fun w => may_any k i s w hs
  have M2 := fun w => may_any k' i' s' w hs'
  have O := fun w => order_any k i s k' i' s' w
  unfold lessB
  generalize mayB ⟨k, i, s⟩ = m1 at M1 ⊢
  generalize mayB ⟨k', i', s'⟩ = m2 at M2 ⊢
  generalize ordV ⟨k, i, s⟩ ⟨k', i', s'⟩ = o at O ⊢
  clear hs hs'
  obtain ⟨q1, q2, -, -⟩ := two_allocs w (.cells #[.int .i64 k, .int .i64 i, .string (str s)] 23) (.cells #[.int .i64 k', .int .i64 i', .string (str s')] 23)
  have bel : Below w.heap.size w ((w.alloc (.cells #[.int .i64 k, .int .i64 i, .string (str s)] 23)).alloc (.cells #[.int .i64 k', .int .i64 i', .string (str s')] 23)) := ((Below.refl _ w).alloc (Nat.le_refl _) _).alloc (by simp) _
  cases m1 with
  | false =>
    go_enter Try.func15, Try.ntmps15
    go_wp2_with fail
    refine (M1 _).mono ?_
    rintro e w1 ⟨rfl, g⟩
    replace q1 := (g.block _ (lt_of_block q1)).trans q1
    replace q2 := (g.block _ (lt_of_block q2)).trans q2
    replace bel := chain bel g
    clear g
    obtain ⟨q1c0, q1c1, q1c2⟩ := cells3 q1
    have q1l := lt_of_block q1
    obtain ⟨q2c0, q2c1, q2c2⟩ := cells3 q2
    have q2l := lt_of_block q2
    go_wp2_with fail
    go_ret
    exact ⟨rfl, bel⟩
  | true =>
    cases m2 with
    | false =>
      go_enter Try.func15, Try.ntmps15
      go_wp2_with fail
      refine (M1 _).mono ?_
      rintro e w1 ⟨rfl, g⟩
      replace q1 := (g.block _ (lt_of_block q1)).trans q1
      replace q2 := (g.block _ (lt_of_block q2)).trans q2
      replace bel := chain bel g
      clear g
      obtain ⟨q1c0, q1c1, q1c2⟩ := cells3 q1
      have q1l := lt_of_block q1
      obtain ⟨q2c0, q2c1, q2c2⟩ := cells3 q2
      have q2l := lt_of_block q2
      go_wp2_with fail
      refine (M2 _).mono ?_
      rintro e w1 ⟨rfl, g⟩
      clear q1c0 q1c1 q1c2 q1l
      replace q1 := (g.block _ (lt_of_block q1)).trans q1
      clear q2c0 q2c1 q2c2 q2l
      replace q2 := (g.block _ (lt_of_block q2)).trans q2
      replace bel := chain bel g
      clear g
      obtain ⟨q1c0, q1c1, q1c2⟩ := cells3 q1
      have q1l := lt_of_block q1
      obtain ⟨q2c0, q2c1, q2c2⟩ := cells3 q2
      have q2l := lt_of_block q2
      go_wp2_with fail
      go_ret
      exact ⟨rfl, bel⟩
    | true =>
      go_enter Try.func15, Try.ntmps15
      go_wp2_with fail
      refine (M1 _).mono ?_
      rintro e w1 ⟨rfl, g⟩
      replace q1 := (g.block _ (lt_of_block q1)).trans q1
      replace q2 := (g.block _ (lt_of_block q2)).trans q2
      replace bel := chain bel g
      clear g
      obtain ⟨q1c0, q1c1, q1c2⟩ := cells3 q1
      have q1l := lt_of_block q1
      obtain ⟨q2c0, q2c1, q2c2⟩ := cells3 q2
      have q2l := lt_of_block q2
      go_wp2_with fail
      refine (M2 _).mono ?_
      rintro e w1 ⟨rfl, g⟩
      clear q1c0 q1c1 q1c2 q1l
      replace q1 := (g.block _ (lt_of_block q1)).trans q1
      clear q2c0 q2c1 q2c2 q2l
      replace q2 := (g.block _ (lt_of_block q2)).trans q2
      replace bel := chain bel g
      clear g
      obtain ⟨q1c0, q1c1, q1c2⟩ := cells3 q1
      have q1l := lt_of_block q1
      obtain ⟨q2c0, q2c1, q2c2⟩ := cells3 q2
      have q2l := lt_of_block q2
      go_wp2_with fail
      refine (O _).mono ?_
      rintro e w2 ⟨rfl, g⟩
      clear q1c0 q1c1 q1c2 q1l
      replace q1 := (g.block _ (lt_of_block q1)).trans q1
      clear q2c0 q2c1 q2c2 q2l
      replace q2 := (g.block _ (lt_of_block q2)).trans q2
      replace bel := chain bel g
      clear g
      obtain ⟨q1c0, q1c1, q1c2⟩ := cells3 q1
      have q1l := lt_of_block q1
      obtain ⟨q2c0, q2c1, q2c2⟩ := cells3 q2
      have q2l := lt_of_block q2
      go_wp2_with fail
      go_ret
      exact ⟨rfl, bel⟩
end Go.Proofs.Ythakimgpaemfeaa
