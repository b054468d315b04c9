/- Values: sums, differences, sizes, products, as the document reckons them. -/
import Derived.Test.YtcehgfganjdghaaDoorQVTC14
import Derived.Test.YtcehgfganjdghaaDoorQVTC21
namespace Go.Proofs.YtcehgfganjdghaaDoor.V7
open Go Go.RowKit
set_option linter.unusedVariables false
set_option linter.unusedSimpArgs false
theorem half_neg (a : Int) (h : a < 0) : a.tdiv 4294967296 = -((-a) / 4294967296) ∧ a.tmod 4294967296 = -((-a) % 4294967296) := by
  obtain ⟨b, rfl⟩ : ∃ b : Nat, a = -(b : Int) := ⟨a.natAbs, by omega⟩
  rw [Int.neg_tdiv, Int.neg_tmod, Int.neg_neg, Int.tdiv_eq_ediv_of_nonneg (by omega), Int.tmod_eq_emod_of_nonneg (by omega)]
  exact ⟨rfl, rfl⟩
theorem ret_two {k k' : IntKind} {a b a' b' : Int} (h : a = a') (h' : b = b') : Ending.returned (.tuple #[.int k a, .int k' b]) = Ending.returned (.tuple #[.int k a', .int k' b']) := by rw [h, h']
/-- The halves of a number. -/
theorem halves (a : Int) (h : fits a) : ∃ q r : Int, Hid (q = a / 4294967296) ∧ Hid (r = a % 4294967296) ∧ Hid (a = q * 4294967296 + r) ∧ -2147483648 ≤ q ∧ q ≤ 2147483647 ∧ 0 ≤ r ∧ r < 4294967296 := by
  obtain ⟨f1, f2⟩ := h
  exact ⟨a / 4294967296, a % 4294967296, rfl, rfl, by show a = _; omega, by omega, by omega, by omega, by omega⟩
theorem ret_nb {a a' : Int} {b b' : Bool} (h : a = a') (h' : b = b') : Ending.returned (.tuple #[.int .i64 a, .bool b]) = Ending.returned (.tuple #[.int .i64 a', .bool b']) := by rw [h, h']
theorem ret_u {a b : Int} (h : a = b) : Ending.returned (.int .u64 a) = Ending.returned (.int .u64 b) := by rw [h]
theorem size_at (a : Int) (n : Nat) (hn : Hid (n = a.natAbs)) (hf : fits a) (w : World) :
    Calls Tryd.prog 102 #[.int .i64 a] w fun e w' => e = .returned (.int .u64 (n : Int)) ∧ w = w' := by
  obtain ⟨f1, f2⟩ := hf
  by_cases h : a < 0
  · go_enter Tryd.func102, Tryd.ntmps102
    go_wp2_with fail
    go_ret
    refine ⟨ret_u ?_, rfl⟩
    have := hn.out
    omega
  · go_enter Tryd.func102, Tryd.ntmps102
    go_wp2_with fail
    go_ret
    refine ⟨ret_u ?_, rfl⟩
    have := hn.out
    rw [hn.out]
    try simp only [IntKind.wrap_u64]
    omega
/-- A size with a sign. -/
def signN (n : Nat) (g : Bool) : Int := if n = 9223372036854775808 then -9223372036854775808 else if g = true then -(n : Int) else n
def signB (n : Nat) (g : Bool) : Bool := if n = 9223372036854775808 then g else true
end Go.Proofs.YtcehgfganjdghaaDoor.V7
