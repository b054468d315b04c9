/- Quorums: the document's sets; the set of a list. -/
import Derived.Test.YtgmblgpfgdfnaaaQMM13
namespace Go.Proofs.Ytgmblgpfgdfnaaa
open Go.RowKit
set_option linter.unusedVariables false
set_option linter.unusedSimpArgs false
theorem bit_div (s n : Nat) : s.testBit n = decide (s / 2 ^ n % 2 = 1) := Nat.testBit_eq_decide_div_mod_eq
theorem hasZ_in (s n : Nat) (h : n < 64) : hasZ s (n : Int) = s.testBit n := by
  unfold hasZ
  have h1 : decide ((0 : Int) ≤ (n : Int)) = true := by simp
  have h2 : decide ((n : Int) < 64) = true := by simp; omega
  rw [h1, h2, Int.toNat_natCast]; simp
theorem hasZ_out (s : Nat) (n : Int) (h : n < 0 ∨ 63 < n) : hasZ s n = false := by
  unfold hasZ
  rcases h with h | h
  · rw [show decide (0 ≤ n) = false by simp; omega]; rfl
  · rw [show decide (n < 64) = false by simp; omega]; simp
/-- The set of a list. -/
def ofZ : List Int → Nat → Nat
  | [], s => s
  | n :: l, s => ofZ l (s ||| bitZ n)
theorem or_lt {a b : Nat} (ha : a < 18446744073709551616) (hb : b < 18446744073709551616) : a ||| b < 18446744073709551616 := by
  have := Nat.or_lt_two_pow (n := 64) (x := a) (y := b) (by simpa using ha) (by simpa using hb)
  simpa using this
theorem ofZ_lt : ∀ (l : List Int) (s : Nat), s < 18446744073709551616 → ofZ l s < 18446744073709551616
  | [], s, h => h
  | n :: l, s, h => ofZ_lt l _ (or_lt h (bitZ_lt n))
theorem ofZ_snoc (l : List Int) (n : Int) (s : Nat) : ofZ (l ++ [n]) s = ofZ l s ||| bitZ n := by
  induction l generalizing s with
  | nil => rfl
  | cons a l ih => exact ih _
theorem bitZ_bit (n : Int) (i : Nat) (hi : i < 64) : (bitZ n).testBit i = decide (n = (i : Int)) := by
  unfold bitZ
  split
  · rename_i h
    by_cases e : n.toNat = i
    · rw [e, Nat.testBit_two_pow_self]; simp; omega
    · rw [Nat.testBit_two_pow_of_ne e]; simp; omega
  · simp; omega
theorem ofZ_bit (l : List Int) (s i : Nat) (hi : i < 64) : (ofZ l s).testBit i = (s.testBit i || decide ((i : Int) ∈ l)) := by
  induction l generalizing s with
  | nil => simp [ofZ]
  | cons n l ih =>
    rw [ofZ, ih, Nat.testBit_or, bitZ_bit n i hi, Bool.or_assoc]
    congr 1
    by_cases h : n = (i : Int)
    · simp [h]
    · have : ¬ (i : Int) = n := fun e => h e.symm
      simp [h, this]
end Go.Proofs.Ytgmblgpfgdfnaaa
