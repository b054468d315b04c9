/- Slots: votes in memory; which numbers, votes, lists of votes, slots may be. Written by wip/tools/gen29a.py. -/
import Derived.Test.YtgmblgpfgdfnaaaDoorQSAC11
import Derived.Test.YtgmblgpfgdfnaaaDoorQSAC12
import Derived.Test.YtgmblgpfgdfnaaaDoorQSAC13
namespace Go.Proofs.YtgmblgpfgdfnaaaDoor
open Go Go.RowKit
set_option linter.unusedVariables false
set_option linter.unusedSimpArgs false
set_option maxRecDepth 100000
def vtC (x : Vt) : List Value := [.int .i64 x.fr, .int .i64 x.vw, .int .i64 x.tm]
def vtV (x : Vt) : Value := .agg #[.int .i64 x.fr, .int .i64 x.vw, .int .i64 x.tm]
theorem vtC_len (x : Vt) : (vtC x).length = 3 := rfl
theorem vtC_one (x : Vt) : ∀ u ∈ vtC x, u.oneCell' = true := by
  intro u hu
  simp only [vtC, List.mem_cons, List.not_mem_nil, or_false] at hu
  rcases hu with rfl | rfl | rfl <;> rfl
def RdT (w : World) (v : Value) (l : List Vt) : Prop := RdK 3 vtC w v l
theorem RdT.below {w w' : World} {v : Value} {l : List Vt} (h : RdT w v l) {B : Nat} (hb : Below B w w') (hB : w.heap.size ≤ B) : RdT w' v l := RdK.below h hb hB
theorem block_cells3 {w : World} {B : Nat} {a0 a1 a2 : Value} {t : TypeId} (h : w.heap[B]? = some (.cells #[a0, a1, a2] t (0, 0))) :
    w.cell? ⟨B, 0, none⟩ = some a0 ∧ w.cell? ⟨B, 1, none⟩ = some a1 ∧ w.cell? ⟨B, 2, none⟩ = some a2 ∧ ∀ i, w.frozen? ⟨B, i, none⟩ = false := by
  refine ⟨?_, ?_, ?_, ?_⟩
  all_goals simp [World.cell?, World.frozen?, h]
theorem block_cells6 {w : World} {B : Nat} {a0 a1 a2 a3 a4 a5 : Value} {t : TypeId} (h : w.heap[B]? = some (.cells #[a0, a1, a2, a3, a4, a5] t (0, 0))) :
    w.cell? ⟨B, 0, none⟩ = some a0 ∧ w.cell? ⟨B, 1, none⟩ = some a1 ∧ w.cell? ⟨B, 2, none⟩ = some a2 ∧ w.cell? ⟨B, 3, none⟩ = some a3 ∧ w.cell? ⟨B, 4, none⟩ = some a4 ∧ w.cell? ⟨B, 5, none⟩ = some a5 ∧ ∀ i, w.frozen? ⟨B, i, none⟩ = false := by
  refine ⟨?_, ?_, ?_, ?_, ?_, ?_, ?_⟩
  all_goals simp [World.cell?, World.frozen?, h]
/-- An element that is read: its three cells. -/
theorem rdt_cells {w : World} {ao : Option Addr} {n cap : Nat} {l : List Vt} (h : RdT w (.slice ao n cap) l) (j : Nat) (hj : j < l.length) :
    ∃ b off, ao = some ⟨b, off, none⟩ ∧ b < w.heap.size ∧ w.cell? ⟨b, off + j * 3, none⟩ = some (.int .i64 l[j].fr) ∧ w.cell? ⟨b, off + j * 3 + 1, none⟩ = some (.int .i64 l[j].vw) ∧ w.cell? ⟨b, off + j * 3 + 2, none⟩ = some (.int .i64 l[j].tm) := by
  obtain ⟨b, off, h1, h2, h3⟩ := RdK.cell vtC_len h j hj
  exact ⟨b, off, h1, h2, h3 0 (by omega), by rw [Nat.add_assoc]; exact h3 1 (by omega), by rw [Nat.add_assoc]; exact h3 2 (by omega)⟩
theorem ret_b {a b : Bool} (h : a = b) : Ending.returned (.bool a) = .returned (.bool b) := by rw [h]
theorem isNum_any (n : Int) (w : World) : Calls Tryd.prog 25 #[.int .i64 n] w fun e w' => e = .returned (.bool (numB n)) ∧ w = w' := by
  unfold numB
  by_cases h0 : 0 ≤ n
  · have d0 : decide (0 ≤ n) = true := decide_eq_true h0
    by_cases h1 : n ≤ 2147483647
    · have d1 : decide (n ≤ 2147483647) = true := decide_eq_true h1
      rw [d0, d1]
      go_enter Tryd.func25, Tryd.ntmps25
      go_wp2_with fail
      go_ret
      exact ⟨rfl, rfl⟩
    · have d1 : decide (n ≤ 2147483647) = false := decide_eq_false h1
      rw [d0, d1]
      go_enter Tryd.func25, Tryd.ntmps25
      go_wp2_with fail
      go_ret
      exact ⟨rfl, rfl⟩
  · have d0 : decide (0 ≤ n) = false := decide_eq_false h0
    rw [d0]
    go_enter Tryd.func25, Tryd.ntmps25
    go_wp2_with fail
    go_ret
    exact ⟨rfl, rfl⟩
theorem refNum_any (n : Int) (w : World) : Calls Tryd.prog 28 #[.int .i64 n] w fun e w' => e = .returned (.bool (numB n)) ∧ w = w' := by
  unfold numB
  by_cases h0 : 0 ≤ n
  · have d0 : decide (0 ≤ n) = true := decide_eq_true h0
    by_cases h1 : n ≤ 2147483647
    · have d1 : decide (n ≤ 2147483647) = true := decide_eq_true h1
      rw [d0, d1]
      go_enter Tryd.func28, Tryd.ntmps28
      go_wp2_with fail
      go_ret
      exact ⟨rfl, rfl⟩
    · have d1 : decide (n ≤ 2147483647) = false := decide_eq_false h1
      rw [d0, d1]
      go_enter Tryd.func28, Tryd.ntmps28
      go_wp2_with fail
      go_ret
      exact ⟨rfl, rfl⟩
  · have d0 : decide (0 ≤ n) = false := decide_eq_false h0
    rw [d0]
    go_enter Tryd.func28, Tryd.ntmps28
    go_wp2_with fail
    go_ret
    exact ⟨rfl, rfl⟩
theorem isVote_any (x : Vt) (w : World) : Calls Tryd.prog 42 #[vtV x] w fun e w' => e = .returned (.bool (voteB x)) ∧ Below w.heap.size w w' := by
  obtain ⟨a, b, c⟩ := x
  have q0 := heap_alloc_new w (.cells #[.int .i64 a, .int .i64 b, .int .i64 c] 26)
  have B0 := (Below.refl w.heap.size w).alloc (Nat.le_refl _) (.cells #[.int .i64 a, .int .i64 b, .int .i64 c] 26)
  have IB := fun w => isNum_any b w
  have IC := fun w => isNum_any c w
  unfold voteB vtV
  simp only
  obtain ⟨vb, hvb⟩ : ∃ vb, vb = numB b := ⟨_, rfl⟩
  obtain ⟨vc, hvc⟩ : ∃ vc, vc = numB c := ⟨_, rfl⟩
  rw [← hvb] at IB ⊢
  rw [← hvc] at IC ⊢
  have IB := Lib.hid IB
  have IC := Lib.hid IC
  clear hvb hvc
  by_cases h0 : 0 ≤ a
  · have d0 : decide (0 ≤ a) = true := decide_eq_true h0
    by_cases h1 : a ≤ 63
    · have d1 : decide (a ≤ 63) = true := decide_eq_true h1
      rw [d0, d1]
      cases vb with
      | false =>
        go_enter Tryd.func42, Tryd.ntmps42
        go_wp2_with (first | ((with_reducible refine (IB.out _).mono ?_); rintro e w1 ⟨rfl, rfl⟩) | ((with_reducible refine (IC.out _).mono ?_); rintro e w1 ⟨rfl, rfl⟩))
        go_ret
        exact ⟨rfl, B0⟩
      | true =>
        cases vc with
        | false =>
          go_enter Tryd.func42, Tryd.ntmps42
          go_wp2_with (first | ((with_reducible refine (IB.out _).mono ?_); rintro e w1 ⟨rfl, rfl⟩) | ((with_reducible refine (IC.out _).mono ?_); rintro e w1 ⟨rfl, rfl⟩))
          go_ret
          exact ⟨rfl, B0⟩
        | true =>
          go_enter Tryd.func42, Tryd.ntmps42
          go_wp2_with (first | ((with_reducible refine (IB.out _).mono ?_); rintro e w1 ⟨rfl, rfl⟩) | ((with_reducible refine (IC.out _).mono ?_); rintro e w1 ⟨rfl, rfl⟩))
          go_ret
          exact ⟨rfl, B0⟩
    · have d1 : decide (a ≤ 63) = false := decide_eq_false h1
      rw [d0, d1]
      go_enter Tryd.func42, Tryd.ntmps42
      go_wp2_with (first | ((with_reducible refine (IB.out _).mono ?_); rintro e w1 ⟨rfl, rfl⟩) | ((with_reducible refine (IC.out _).mono ?_); rintro e w1 ⟨rfl, rfl⟩))
      go_ret
      exact ⟨rfl, B0⟩
  · have d0 : decide (0 ≤ a) = false := decide_eq_false h0
    rw [d0]
    go_enter Tryd.func42, Tryd.ntmps42
    go_wp2_with (first | ((with_reducible refine (IB.out _).mono ?_); rintro e w1 ⟨rfl, rfl⟩) | ((with_reducible refine (IC.out _).mono ?_); rintro e w1 ⟨rfl, rfl⟩))
    go_ret
    exact ⟨rfl, B0⟩
theorem refVote_any (x : Vt) (w : World) : Calls Tryd.prog 29 #[vtV x] w fun e w' => e = .returned (.bool (voteB x)) ∧ Below w.heap.size w w' := by
  obtain ⟨a, b, c⟩ := x
  have q0 := heap_alloc_new w (.cells #[.int .i64 a, .int .i64 b, .int .i64 c] 26)
  have B0 := (Below.refl w.heap.size w).alloc (Nat.le_refl _) (.cells #[.int .i64 a, .int .i64 b, .int .i64 c] 26)
  have IB := fun w => refNum_any b w
  have IC := fun w => refNum_any c w
  unfold voteB vtV
  simp only
  obtain ⟨vb, hvb⟩ : ∃ vb, vb = numB b := ⟨_, rfl⟩
  obtain ⟨vc, hvc⟩ : ∃ vc, vc = numB c := ⟨_, rfl⟩
  rw [← hvb] at IB ⊢
  rw [← hvc] at IC ⊢
  have IB := Lib.hid IB
  have IC := Lib.hid IC
  clear hvb hvc
  by_cases h0 : 0 ≤ a
  · have d0 : decide (0 ≤ a) = true := decide_eq_true h0
    by_cases h1 : a ≤ 63
    · have d1 : decide (a ≤ 63) = true := decide_eq_true h1
      rw [d0, d1]
      cases vb with
      | false =>
        go_enter Tryd.func29, Tryd.ntmps29
        go_wp2_with (first | ((with_reducible refine (IB.out _).mono ?_); rintro e w1 ⟨rfl, rfl⟩) | ((with_reducible refine (IC.out _).mono ?_); rintro e w1 ⟨rfl, rfl⟩))
        go_ret
        exact ⟨rfl, B0⟩
      | true =>
        cases vc with
        | false =>
          go_enter Tryd.func29, Tryd.ntmps29
          go_wp2_with (first | ((with_reducible refine (IB.out _).mono ?_); rintro e w1 ⟨rfl, rfl⟩) | ((with_reducible refine (IC.out _).mono ?_); rintro e w1 ⟨rfl, rfl⟩))
          go_ret
          exact ⟨rfl, B0⟩
        | true =>
          go_enter Tryd.func29, Tryd.ntmps29
          go_wp2_with (first | ((with_reducible refine (IB.out _).mono ?_); rintro e w1 ⟨rfl, rfl⟩) | ((with_reducible refine (IC.out _).mono ?_); rintro e w1 ⟨rfl, rfl⟩))
          go_ret
          exact ⟨rfl, B0⟩
    · have d1 : decide (a ≤ 63) = false := decide_eq_false h1
      rw [d0, d1]
      go_enter Tryd.func29, Tryd.ntmps29
      go_wp2_with (first | ((with_reducible refine (IB.out _).mono ?_); rintro e w1 ⟨rfl, rfl⟩) | ((with_reducible refine (IC.out _).mono ?_); rintro e w1 ⟨rfl, rfl⟩))
      go_ret
      exact ⟨rfl, B0⟩
  · have d0 : decide (0 ≤ a) = false := decide_eq_false h0
    rw [d0]
    go_enter Tryd.func29, Tryd.ntmps29
    go_wp2_with (first | ((with_reducible refine (IB.out _).mono ?_); rintro e w1 ⟨rfl, rfl⟩) | ((with_reducible refine (IC.out _).mono ?_); rintro e w1 ⟨rfl, rfl⟩))
    go_ret
    exact ⟨rfl, B0⟩
end Go.Proofs.YtgmblgpfgdfnaaaDoor
