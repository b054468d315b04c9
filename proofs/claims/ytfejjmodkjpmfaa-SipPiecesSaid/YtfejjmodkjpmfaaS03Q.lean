/- The document's round. -/
import Derived.Test.YtfejjmodkjpmfaaS03P
namespace Go.Proofs.Ytfejjmodkjpmfaa
open Go.RowKit
set_option linter.unusedVariables false
set_option linter.unusedSimpArgs false
set_option maxRecDepth 100000 in
set_option maxHeartbeats 1000000 in
theorem round_any (s : St) (hs : s.Ok) (w : World) :
    Calls Try.prog 19 #[stV s] w fun e w' => e = .returned (stV (roundN s)) ∧ Below w.heap.size w w' := by
  obtain ⟨a, b, c, d⟩ := s
  obtain ⟨ha, hb, hc, hd⟩ := hs
  simp only [] at ha hb hc hd
  unfold stV
  simp only []
  obtain ⟨rb, erb⟩ : ∃ x, x = rotN b 13 := ⟨_, rfl⟩
  obtain ⟨rd, erd⟩ : ∃ x, x = rotN d 16 := ⟨_, rfl⟩
  have hrb : rb < 18446744073709551616 := by rw [erb]; exact rot_lt b 13 hb (by decide)
  have hrd : rd < 18446744073709551616 := by rw [erd]; exact rot_lt d 16 hd (by decide)
  obtain ⟨a1, ea1⟩ : ∃ x, x = addN a b := ⟨_, rfl⟩
  obtain ⟨c1, ec1⟩ : ∃ x, x = addN c d := ⟨_, rfl⟩
  have ha1 : a1 < 18446744073709551616 := by rw [ea1]; exact add_lt _ _
  have hc1 : c1 < 18446744073709551616 := by rw [ec1]; exact add_lt _ _
  obtain ⟨b1, eb1⟩ : ∃ x, x = xorN rb a1 := ⟨_, rfl⟩
  obtain ⟨d1, ed1⟩ : ∃ x, x = xorN rd c1 := ⟨_, rfl⟩
  have hb1 : b1 < 18446744073709551616 := by rw [eb1]; exact xor_lt hrb ha1
  have hd1 : d1 < 18446744073709551616 := by rw [ed1]; exact xor_lt hrd hc1
  obtain ⟨a2, ea2⟩ : ∃ x, x = rotN a1 32 := ⟨_, rfl⟩
  have ha2 : a2 < 18446744073709551616 := by rw [ea2]; exact rot_lt _ _ ha1 (by decide)
  obtain ⟨a3, ea3⟩ : ∃ x, x = addN a2 d1 := ⟨_, rfl⟩
  have ha3 : a3 < 18446744073709551616 := by rw [ea3]; exact add_lt _ _
  obtain ⟨rd1, erd1⟩ : ∃ x, x = rotN d1 21 := ⟨_, rfl⟩
  have hrd1 : rd1 < 18446744073709551616 := by rw [erd1]; exact rot_lt _ _ hd1 (by decide)
  obtain ⟨d2, ed2⟩ : ∃ x, x = xorN rd1 a3 := ⟨_, rfl⟩
  obtain ⟨c2, ec2⟩ : ∃ x, x = addN c1 b1 := ⟨_, rfl⟩
  have hc2 : c2 < 18446744073709551616 := by rw [ec2]; exact add_lt _ _
  obtain ⟨rb1, erb1⟩ : ∃ x, x = rotN b1 17 := ⟨_, rfl⟩
  have hrb1 : rb1 < 18446744073709551616 := by rw [erb1]; exact rot_lt _ _ hb1 (by decide)
  obtain ⟨b2, eb2⟩ : ∃ x, x = xorN rb1 c2 := ⟨_, rfl⟩
  obtain ⟨c3, ec3⟩ : ∃ x, x = rotN c2 32 := ⟨_, rfl⟩
  have q1 : IntKind.u64.wrap ((a : Int) + b) = (a1 : Int) := by rw [ea1]; exact add_is _ _
  have q2 : bits .xor .u64 (rb : Int) (a1 : Int) = (b1 : Int) := by rw [eb1]; exact xor_is hrb ha1
  have q3 : IntKind.u64.wrap ((c : Int) + d) = (c1 : Int) := by rw [ec1]; exact add_is _ _
  have q4 : bits .xor .u64 (rd : Int) (c1 : Int) = (d1 : Int) := by rw [ed1]; exact xor_is hrd hc1
  have q5 : IntKind.u64.wrap ((a2 : Int) + d1) = (a3 : Int) := by rw [ea3]; exact add_is _ _
  have q6 : bits .xor .u64 (rd1 : Int) (a3 : Int) = (d2 : Int) := by rw [ed2]; exact xor_is hrd1 ha3
  have q7 : IntKind.u64.wrap ((c1 : Int) + b1) = (c2 : Int) := by rw [ec2]; exact add_is _ _
  have q8 : bits .xor .u64 (rb1 : Int) (c2 : Int) = (b2 : Int) := by rw [eb2]; exact xor_is hrb1 hc2
  have T1 : ∀ w, Calls Try.prog 24 #[.int .u64 (b : Int), .int .i64 13] w fun e w' => e = .returned (.int .u64 (rb : Int)) ∧ w' = w := fun w => by
    rw [erb]
    exact (turn_any b 13 b 13 rfl rfl (by assumption) (by decide) w).mono (fun e w' h => ⟨h.1, h.2.symm⟩)
  have T2 : ∀ w, Calls Try.prog 24 #[.int .u64 (a1 : Int), .int .i64 32] w fun e w' => e = .returned (.int .u64 (a2 : Int)) ∧ w' = w := fun w => by
    rw [ea2]
    exact (turn_any a1 32 a1 32 rfl rfl (by assumption) (by decide) w).mono (fun e w' h => ⟨h.1, h.2.symm⟩)
  have T3 : ∀ w, Calls Try.prog 24 #[.int .u64 (d : Int), .int .i64 16] w fun e w' => e = .returned (.int .u64 (rd : Int)) ∧ w' = w := fun w => by
    rw [erd]
    exact (turn_any d 16 d 16 rfl rfl (by assumption) (by decide) w).mono (fun e w' h => ⟨h.1, h.2.symm⟩)
  have T4 : ∀ w, Calls Try.prog 24 #[.int .u64 (d1 : Int), .int .i64 21] w fun e w' => e = .returned (.int .u64 (rd1 : Int)) ∧ w' = w := fun w => by
    rw [erd1]
    exact (turn_any d1 21 d1 21 rfl rfl (by assumption) (by decide) w).mono (fun e w' h => ⟨h.1, h.2.symm⟩)
  have T5 : ∀ w, Calls Try.prog 24 #[.int .u64 (b1 : Int), .int .i64 17] w fun e w' => e = .returned (.int .u64 (rb1 : Int)) ∧ w' = w := fun w => by
    rw [erb1]
    exact (turn_any b1 17 b1 17 rfl rfl (by assumption) (by decide) w).mono (fun e w' h => ⟨h.1, h.2.symm⟩)
  have T6 : ∀ w, Calls Try.prog 24 #[.int .u64 (c2 : Int), .int .i64 32] w fun e w' => e = .returned (.int .u64 (c3 : Int)) ∧ w' = w := fun w => by
    rw [ec3]
    exact (turn_any c2 32 c2 32 rfl rfl (by assumption) (by decide) w).mono (fun e w' h => ⟨h.1, h.2.symm⟩)
  have hres : roundN ⟨a, b, c, d⟩ = ⟨a3, b2, c3, d2⟩ := by
    unfold roundN
    simp only [← erb, ← erd, ← ea1, ← ec1, ← eb1, ← ed1, ← ea2, ← ea3, ← erd1, ← ed2, ← ec2, ← erb1, ← eb2, ← ec3]
  have HRES := Lib.hid hres
  clear hres erb erd ea1 ec1 eb1 ed1 ea2 ea3 erd1 ed2 ec2 erb1 eb2 ec3 ha hb hc hd hrb hrd ha1 hc1 hb1 hd1 ha2 ha3 hrd1 hc2 hrb1
  have B := Below.refl w.heap.size w
  go_enter Try.func19, Try.ntmps19
  go_wp2_with fail
  refine wp_region_still_tail 7 (by kernel_rfl) (by kernel_rfl) ?_
  simp only [List.take_succ_cons, List.take_zero, List.drop_succ_cons, List.drop_zero]
  change wpStill _ _ (World.drew _) _ _ _
  repeat still_step
  still_call (T1 _)
  repeat still_step
  refine wpStill_nil ?_
  change wpList _ _ _ _ _ (World.drew _)
  go_wp2_with fail
  refine (T2 _).mono ?_
  rintro e w9 ⟨rfl, rfl⟩
  go_wp2_with fail
  refine wp_region_still_tail 7 (by kernel_rfl) (by kernel_rfl) ?_
  simp only [List.take_succ_cons, List.take_zero, List.drop_succ_cons, List.drop_zero]
  change wpStill _ _ (World.drew _) _ _ _
  repeat still_step
  still_call (T3 _)
  repeat still_step
  refine wpStill_nil ?_
  change wpList _ _ _ _ _ (World.drew _)
  go_wp2_with fail
  refine wp_region_still_tail 7 (by kernel_rfl) (by kernel_rfl) ?_
  simp only [List.take_succ_cons, List.take_zero, List.drop_succ_cons, List.drop_zero]
  change wpStill _ _ (World.drew _) _ _ _
  repeat still_step
  still_call (T4 _)
  repeat still_step
  refine wpStill_nil ?_
  change wpList _ _ _ _ _ (World.drew _)
  go_wp2_with fail
  refine wp_region_still_tail 7 (by kernel_rfl) (by kernel_rfl) ?_
  simp only [List.take_succ_cons, List.take_zero, List.drop_succ_cons, List.drop_zero]
  change wpStill _ _ (World.drew _) _ _ _
  repeat still_step
  still_call (T5 _)
  repeat still_step
  refine wpStill_nil ?_
  change wpList _ _ _ _ _ (World.drew _)
  go_wp2_with fail
  refine (T6 _).mono ?_
  rintro e w9 ⟨rfl, rfl⟩
  go_wp2_with fail
  refine bodyPost_ret (v := .agg #[.int .u64 (a3 : Int), .int .u64 (b2 : Int), .int .u64 (c3 : Int), .int .u64 (d2 : Int)]) (by simp [results, Try.results19, go_sem]) rfl ⟨?_, by go_grown⟩
  rw [HRES.out]
end Go.Proofs.Ytfejjmodkjpmfaa
