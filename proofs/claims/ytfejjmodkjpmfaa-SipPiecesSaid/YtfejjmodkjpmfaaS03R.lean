/- Turning a word: the program's way and the document's. -/
import Derived.Test.YtfejjmodkjpmfaaS03M
import Derived.Test.YtfejjmodkjpmfaaProg
import Derived.WalkKit
namespace Go.Proofs.Ytfejjmodkjpmfaa
open Go.RowKit
set_option linter.unusedVariables false
set_option linter.unusedSimpArgs false
theorem rot_bits (x k P h : Nat) (hx : x < 18446744073709551616) (hk : k ≤ 63) (h1 : 1 ≤ k) (hP : P = 2 ^ k) (hh : h = 2 ^ (64 - k)) : bits .or .u64 (IntKind.u64.wrap ((x : Int) * (P : Int))) ((x : Int) / (h : Int)) = (rotN x k : Int) := by
  have e1 : (x : Int) * (P : Int) % 18446744073709551616 = ((x * P % 18446744073709551616 : Nat) : Int) := by rw [Int.natCast_emod, Int.natCast_mul]; rfl
  have e2 : (x : Int) / (h : Int) = ((x / h : Nat) : Int) := by push_cast; rfl
  have e3 : x / h < 18446744073709551616 := Nat.lt_of_le_of_lt (Nat.div_le_self _ _) hx
  rw [IntKind.wrap_u64, e1, e2, u64_or_nat _ _ (Nat.mod_lt _ (by decide)) e3, hP, hh, rot_or x k hx hk]
set_option maxRecDepth 100000 in
theorem rot13 (X : Int) (x : Nat) (hX : X = (x : Int)) (hx : x < 18446744073709551616) (w : World) :
    Calls Try.prog 25 #[.int .u64 X, .int .i64 13] w fun e w' => e = .returned (.int .u64 (rotN x 13 : Int)) ∧ w = w' := by
  have hb : bits .and .u64 13 63 = 13 := by decide
  subst hX
  go_enter Try.func25, Try.ntmps25
  go_wp2
  go_ret
  refine ⟨?_, rfl⟩
  exact congrArg (fun v => Ending.returned (.int .u64 v)) (rot_bits x 13 8192 2251799813685248 hx (by decide) (by decide) (by decide) (by decide))
set_option maxRecDepth 100000 in
theorem rot16 (X : Int) (x : Nat) (hX : X = (x : Int)) (hx : x < 18446744073709551616) (w : World) :
    Calls Try.prog 25 #[.int .u64 X, .int .i64 16] w fun e w' => e = .returned (.int .u64 (rotN x 16 : Int)) ∧ w = w' := by
  have hb : bits .and .u64 16 63 = 16 := by decide
  subst hX
  go_enter Try.func25, Try.ntmps25
  go_wp2
  go_ret
  refine ⟨?_, rfl⟩
  exact congrArg (fun v => Ending.returned (.int .u64 v)) (rot_bits x 16 65536 281474976710656 hx (by decide) (by decide) (by decide) (by decide))
set_option maxRecDepth 100000 in
theorem rot17 (X : Int) (x : Nat) (hX : X = (x : Int)) (hx : x < 18446744073709551616) (w : World) :
    Calls Try.prog 25 #[.int .u64 X, .int .i64 17] w fun e w' => e = .returned (.int .u64 (rotN x 17 : Int)) ∧ w = w' := by
  have hb : bits .and .u64 17 63 = 17 := by decide
  subst hX
  go_enter Try.func25, Try.ntmps25
  go_wp2
  go_ret
  refine ⟨?_, rfl⟩
  exact congrArg (fun v => Ending.returned (.int .u64 v)) (rot_bits x 17 131072 140737488355328 hx (by decide) (by decide) (by decide) (by decide))
set_option maxRecDepth 100000 in
theorem rot21 (X : Int) (x : Nat) (hX : X = (x : Int)) (hx : x < 18446744073709551616) (w : World) :
    Calls Try.prog 25 #[.int .u64 X, .int .i64 21] w fun e w' => e = .returned (.int .u64 (rotN x 21 : Int)) ∧ w = w' := by
  have hb : bits .and .u64 21 63 = 21 := by decide
  subst hX
  go_enter Try.func25, Try.ntmps25
  go_wp2
  go_ret
  refine ⟨?_, rfl⟩
  exact congrArg (fun v => Ending.returned (.int .u64 v)) (rot_bits x 21 2097152 8796093022208 hx (by decide) (by decide) (by decide) (by decide))
set_option maxRecDepth 100000 in
theorem rot32 (X : Int) (x : Nat) (hX : X = (x : Int)) (hx : x < 18446744073709551616) (w : World) :
    Calls Try.prog 25 #[.int .u64 X, .int .i64 32] w fun e w' => e = .returned (.int .u64 (rotN x 32 : Int)) ∧ w = w' := by
  have hb : bits .and .u64 32 63 = 32 := by decide
  subst hX
  go_enter Try.func25, Try.ntmps25
  go_wp2
  go_ret
  refine ⟨?_, rfl⟩
  exact congrArg (fun v => Ending.returned (.int .u64 v)) (rot_bits x 32 4294967296 4294967296 hx (by decide) (by decide) (by decide) (by decide))
set_option maxRecDepth 100000 in
theorem turn_any (X K : Int) (x k : Nat) (hX : X = (x : Int)) (hK : K = (k : Int)) (hx : x < 18446744073709551616) (hk : k ≤ 63) (w : World) :
    Calls Try.prog 24 #[.int .u64 X, .int .i64 K] w fun e w' => e = .returned (.int .u64 (rotN x k : Int)) ∧ w = w' := by
  subst hX
  subst hK
  rw [← turn_rot x hx k hk]
  go_enter Try.func24, Try.ntmps24
  go_wp2
  go_loop [0, 5] (fun v i => ∃ j : Nat, j ≤ k ∧ v = .int .u64 (turnN x j : Int) ∧ i = .int .i64 (j : Int)) (fun _ i => k - (intOf i).toNat)
  case atStart => exact ⟨0, by omega, rfl, rfl⟩
  case round =>
    obtain ⟨j, hj, rfl, rfl⟩ := hrel
    by_cases hlt : j < k
    · have e : IntKind.u64.wrap (IntKind.u64.wrap ((turnN x j : Int) + (turnN x j : Int)) + IntKind.u64.wrap ((turnN x j : Int) / 9223372036854775808)) = (turnN x (j + 1) : Int) := by
        rw [IntKind.wrap_u64, IntKind.wrap_u64, IntKind.wrap_u64, turnN]; omega
      go_wp2
      refine ⟨⟨j + 1, by omega, rfl, by push_cast; rfl⟩, ?_⟩
      simp [intOf]; omega
    · obtain rfl : j = k := by omega
      go_wp2
      go_ret
      exact ⟨rfl, rfl⟩
end Go.Proofs.Ytfejjmodkjpmfaa
