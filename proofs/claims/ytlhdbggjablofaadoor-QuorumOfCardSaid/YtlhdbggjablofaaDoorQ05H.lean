/- Quorums: the chapter's examples; the law QuorumSizes. -/
import Derived.Test.YtlhdbggjablofaaDoorQ05C
import Derived.Test.YtlhdbggjablofaaDoorQ05G
namespace Go.Proofs.YtlhdbggjablofaaDoor
open Go.RowKit
set_option linter.unusedVariables false
set_option linter.unusedSimpArgs false
set_option maxRecDepth 100000 in
set_option maxHeartbeats 1000000 in
theorem awake_any (w : World) (hT : TabAt w) :
    Calls Tryd.prog 12 #[] w fun e w' => e = .returned (.bool true) ∧ Below w.heap.size w w' := by
  have C1 := replicas_yes 1 (by decide) (by decide)
  have C2 := faults_any 5 (by decide)
  have C3 := list_any 11 (by decide) w hT
  have C4 := strong_any 4 (by decide)
  have C5 := weak_any 4 (by decide)
  have C6 := count_any 11 (by decide)
  have C7 := isStrong_any 11 (by decide) 4 (by decide)
  have C8 := primary_any 9 4 (by decide)
  have C9 := primary_any (-1) 4 (by decide)
  rw [show fN 5 = 0 from by decide] at C2
  rw [show listN 11 = [0, 1, 3] from by decide +kernel] at C3
  rw [show fN 4 = 1 from by decide] at C4 C5
  rw [show popK 64 11 = 3 from by decide +kernel] at C6
  rw [show enoughB 11 4 (strongZ 4) = true from by decide +kernel] at C7
  rw [show primZ 9 4 = 1 from by decide] at C8
  rw [show primZ (-1) 4 = 3 from by decide] at C9
  have H3 := Lib.hid C3
  clear C3 hT
  go_enter Tryd.func12, Tryd.ntmps12
  go_wp2_with fail
  refine (C1 _).mono ?_
  rintro e w1 ⟨rfl, rfl⟩
  go_wp2_with fail
  refine (C2 _).mono ?_
  rintro e w1 ⟨rfl, rfl⟩
  go_wp2_with fail
  refine H3.out.mono ?_
  rintro e w1 ⟨v, rfl, ho, hb⟩
  obtain ⟨g, cap, rfl, hc1, hc2⟩ := slice_of_own ho (by decide)
  have c2 := ho.cellAt 2 (by decide)
  simp only [List.map, iv, List.getElem?_cons_succ, List.getElem?_cons_zero, Nat.reduceAdd] at c2
  have HO := Lib.hid ho
  clear ho H3
  unfold maxLen at hc2
  go_wp2_with fail
  refine (C4 _).mono ?_
  rintro e w2 ⟨rfl, rfl⟩
  go_wp2_with fail
  refine (C5 _).mono ?_
  rintro e w2 ⟨rfl, rfl⟩
  go_wp2_with fail
  refine (C6 _).mono ?_
  rintro e w2 ⟨rfl, rfl⟩
  go_wp2_with fail
  refine (C7 _).mono ?_
  rintro e w2 ⟨rfl, rfl⟩
  go_wp2_with fail
  refine (C8 _).mono ?_
  rintro e w2 ⟨rfl, rfl⟩
  go_wp2_with fail
  refine (C9 _).mono ?_
  rintro e w2 ⟨rfl, rfl⟩
  go_wp2_with fail
  go_ret
  exact ⟨rfl, hb⟩
theorem fN_range (n : Int) : 0 ≤ fN n ∧ fN n ≤ 5 := by have := fN_cases n; omega
set_option maxRecDepth 100000 in
set_option maxHeartbeats 1000000 in
theorem sizes_any (f n : Int) (w : World) (wf : (Lit.int .i64 f).wf = true) (wn : (Lit.int .i64 n).wf = true) (hT : TabAt w) :
    Calls Tryd.prog 3 #[.int .i64 f, .int .i64 n] w fun e w' => e = .returned (.bool true) ∧ Below w.heap.size w w' := by
  have hn : -9223372036854775808 ≤ n ∧ n ≤ 9223372036854775807 := by
    simp [Lit.wf, IntKind.min, IntKind.max, IntKind.signed, IntKind.bits] at wn; omega
  have C2 := faults_any n hn
  have C3 := refFaults_any n
  have C4 := strong_any n hn
  have C5 := weak_any n hn
  have A := awake_any w hT
  have hr := fN_range n
  generalize fN n = k at C2 C3 C4 C5 hr
  have hC1 : (1 ≤ f ∧ f ≤ 5 ∧ ∀ w, Calls Tryd.prog 7 #[.int .i64 f] w fun e w' => e = .returned (.tuple #[.int .i64 (3 * f + 1), .int .i64 0]) ∧ w = w') ∨ ((f < 1 ∨ 1 ≤ f ∧ 5 < f) ∧ ∀ w, Calls Tryd.prog 7 #[.int .i64 f] w fun e w' => e = .returned (.tuple #[.int .i64 0, .int .i64 1]) ∧ w = w') := by
    by_cases h : 1 ≤ f ∧ f ≤ 5
    · exact .inl ⟨h.1, h.2, replicas_yes f h.1 h.2⟩
    · exact .inr ⟨by omega, replicas_no f (by omega)⟩
  clear hn wf wn hT
  have HA := Lib.hid A
  clear A
  by_cases hk : k = 0
  · subst hk
    simp only [if_true] at C2 C4 C5
    rcases hC1 with ⟨h1, h2, C1⟩ | ⟨h | ⟨h, h'⟩, C1⟩
    all_goals
      go_enter Tryd.func3, Tryd.ntmps3
      go_wp2_with fail
      refine (C1 _).mono ?_
      rintro e w1 ⟨rfl, rfl⟩
      go_wp2_with fail
      refine (C2 _).mono ?_
      rintro e w1 ⟨rfl, rfl⟩
      go_wp2_with fail
      refine (C3 _).mono ?_
      rintro e w1 ⟨rfl, rfl⟩
      go_wp2_with fail
      refine (C4 _).mono ?_
      rintro e w1 ⟨rfl, rfl⟩
      go_wp2_with fail
      refine (C5 _).mono ?_
      rintro e w1 ⟨rfl, rfl⟩
      go_wp2_with fail
      refine HA.out.mono ?_
      rintro e w1 ⟨rfl, hb⟩
      go_wp2_with fail
      go_ret
      exact ⟨rfl, hb⟩
  · simp only [if_neg hk] at C2 C4 C5
    have hk2 : ((k : Int) == 0) = false := by simpa using hk
    rcases hC1 with ⟨h1, h2, C1⟩ | ⟨h | ⟨h, h'⟩, C1⟩
    all_goals
      go_enter Tryd.func3, Tryd.ntmps3
      go_wp2_with fail
      refine (C1 _).mono ?_
      rintro e w1 ⟨rfl, rfl⟩
      go_wp2_with fail
      refine (C2 _).mono ?_
      rintro e w1 ⟨rfl, rfl⟩
      go_wp2_with fail
      refine (C3 _).mono ?_
      rintro e w1 ⟨rfl, rfl⟩
      go_wp2_with fail
      refine (C4 _).mono ?_
      rintro e w1 ⟨rfl, rfl⟩
      go_wp2_with fail
      refine (C5 _).mono ?_
      rintro e w1 ⟨rfl, rfl⟩
      go_wp2_with fail
      refine HA.out.mono ?_
      rintro e w1 ⟨rfl, hb⟩
      go_wp2_with fail
      go_ret
      exact ⟨rfl, hb⟩
end Go.Proofs.YtlhdbggjablofaaDoor
