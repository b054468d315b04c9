/- Quorums: the laws QuorumSets and QuorumOf. -/
import Derived.Test.YtgmblgpfgdfnaaaQMM16
import Derived.Deep.QuietTactic
import Derived.BigQuiet
namespace Go.Proofs.Ytgmblgpfgdfnaaa
open Go.RowKit
set_option linter.unusedVariables false
set_option linter.unusedSimpArgs false
theorem has_eq (s : Nat) (n : Int) : (((s &&& bitZ n : Nat) : Int) != 0) = hasZ s n := by
  by_cases h : 0 ≤ n ∧ n < 64
  · obtain ⟨m, rfl⟩ := Int.eq_ofNat_of_zero_le h.1
    rw [hasZ_in s m (by omega), bit_div]
    unfold bitZ
    rw [if_pos h, Int.toNat_natCast, nat_bit]
    have hp := Nat.two_pow_pos m
    have : s / 2 ^ m % 2 = 0 ∨ s / 2 ^ m % 2 = 1 := by omega
    rcases this with e | e
    · rw [e]; simp
    · rw [e, Nat.one_mul]
      have h2 : ((2 ^ m : Nat) : Int) ≠ 0 := by omega
      generalize ((2 ^ m : Nat) : Int) = z at h2
      simpa using h2
  · rw [hasZ_out s n (by omega)]
    unfold bitZ
    rw [if_neg h]; simp
theorem bits_eq (a b : Nat) (ha : a < 18446744073709551616) (hb : b < 18446744073709551616) (h : ∀ i, i < 64 → a.testBit i = b.testBit i) : a = b := by
  apply Nat.eq_of_testBit_eq
  intro i
  by_cases hi : i < 64
  · exact h i hi
  · have e : 2 ^ 64 ≤ 2 ^ i := Nat.pow_le_pow_right (by decide) (by omega)
    rw [Nat.testBit_lt_two_pow (Nat.lt_of_lt_of_le (by simpa using ha) e), Nat.testBit_lt_two_pow (Nat.lt_of_lt_of_le (by simpa using hb) e)]
theorem of_list (s : Nat) (hs : s < 18446744073709551616) : ofZ ((listN s).map Int.ofNat) 0 = s := by
  apply bits_eq _ _ (ofZ_lt _ _ (by decide)) hs
  intro i hi
  rw [ofZ_bit _ _ _ hi, Nat.zero_testBit, Bool.false_or, Bool.eq_iff_iff, decide_eq_true_eq, List.mem_map]
  constructor
  · rintro ⟨a, h1, h2⟩
    obtain rfl : a = i := by have : (a : Int) = (i : Int) := h2; omega
    exact ((mem_list s a).1 h1).2
  · intro h
    exact ⟨i, (mem_list s i).2 ⟨hi, h⟩, rfl⟩
theorem iz_list (s : Nat) : ((listN s).map Int.ofNat).map iz = (listN s).map iv := by
  rw [List.map_map]; rfl
theorem has_with (s : Nat) (n : Int) (k : Nat) (hk : k < 64) : hasZ (s ||| bitZ n) (k : Int) = (hasZ s (k : Int) || decide (n = (k : Int))) := by
  rw [hasZ_in _ k hk, hasZ_in s k hk, Nat.testBit_or, bitZ_bit n k hk]
theorem has_without (s : Nat) (n : Int) (k : Nat) (hk : k < 64) : hasZ (s &&& (18446744073709551615 - bitZ n)) (k : Int) = (hasZ s (k : Int) && !decide (n = (k : Int))) := by
  rw [hasZ_in _ k hk, hasZ_in s k hk, Nat.testBit_and]
  congr 1
  have h := bitZ_lt n
  have e : 18446744073709551615 - bitZ n = 2 ^ 64 - (bitZ n + 1) := by simp
  rw [e, Nat.testBit_two_pow_sub_succ (by simpa using h), bitZ_bit n k hk]
  simp [hk]
theorem has_all (n : Int) (k : Nat) (hk : k < 64) : hasZ (allZ n) (k : Int) = decide ((k : Int) < n) := by
  rw [hasZ_in _ k hk]
  unfold allZ
  split
  · simp; omega
  · split
    · rw [show 18446744073709551615 = 2 ^ 64 - 1 from by decide, Nat.testBit_two_pow_sub_one]
      simp [hk]; omega
    · rw [Nat.testBit_two_pow_sub_one, Bool.eq_iff_iff]
      simp
end Go.Proofs.Ytgmblgpfgdfnaaa
