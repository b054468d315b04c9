/- Sets of numbers: the lowest one; what is in a set. Plain mathematics. -/
import Derived.Test.YtgmblgpfgdfnaaaQMM6
namespace Go.Proofs.Ytgmblgpfgdfnaaa
set_option linter.unusedVariables false
set_option linter.unusedSimpArgs false
theorem odd_part : ∀ (n x : Nat), x ≤ n → 0 < x → ∃ k m, x = 2 ^ (k + 1) * m + 2 ^ k
  | 0, x, h, h0 => by omega
  | n + 1, x, h, h0 => by
    by_cases h1 : x % 2 = 1
    · exact ⟨0, x / 2, by simp; omega⟩
    · obtain ⟨k, m, e⟩ := odd_part n (x / 2) (by omega) (by omega)
      refine ⟨k + 1, m, ?_⟩
      rw [Nat.pow_succ 2 (k + 1), Nat.mul_comm (2 ^ (k + 1)) 2, Nat.mul_assoc, Nat.pow_succ 2 k, Nat.mul_comm (2 ^ k) 2]
      rw [Nat.pow_succ, Nat.mul_comm (2 ^ k) 2] at e
      omega
theorem pow_half (k : Nat) : 2 ^ k < 2 ^ (k + 1) := Nat.pow_lt_pow_right (by decide) (by omega)
theorem low_bit (k m : Nat) (hk : k < 64) (h : 2 ^ (k + 1) * m + 2 ^ k < 18446744073709551616) :
    (2 ^ (k + 1) * m + 2 ^ k) &&& (18446744073709551616 - (2 ^ (k + 1) * m + 2 ^ k)) = 2 ^ k := by
  have e64 : 18446744073709551616 = 2 ^ (k + 1) * 2 ^ (63 - k) := by rw [← Nat.pow_add, show k + 1 + (63 - k) = 64 from by omega]
  have hm : m < 2 ^ (63 - k) := by
    have : 2 ^ (k + 1) * m < 2 ^ (k + 1) * 2 ^ (63 - k) := by rw [← e64]; exact Nat.lt_of_le_of_lt (Nat.le_add_right _ _) h
    exact Nat.lt_of_mul_lt_mul_left this
  have hs : 18446744073709551616 - (2 ^ (k + 1) * m + 2 ^ k) = 2 ^ (k + 1) * (2 ^ (63 - k) - (m + 1)) + 2 ^ k := by
    have e1 : 2 ^ (k + 1) * (2 ^ (63 - k) - (m + 1)) = 18446744073709551616 - (2 ^ (k + 1) * m + 2 ^ (k + 1)) := by
      rw [Nat.mul_sub, ← e64, Nat.mul_add, Nat.mul_one]
    have e2 : 2 ^ (k + 1) * (m + 1) ≤ 18446744073709551616 := by rw [e64]; exact Nat.mul_le_mul_left _ hm
    rw [Nat.mul_add, Nat.mul_one] at e2
    have e3 : 2 ^ (k + 1) = 2 ^ k + 2 ^ k := by rw [Nat.pow_succ]; omega
    omega
  rw [hs, and_cut (k + 1) _ _ _ _ (pow_half k) (pow_half k), Nat.and_self]
  have hz : m &&& (2 ^ (63 - k) - (m + 1)) = 0 := by
    apply Nat.eq_of_testBit_eq
    intro i
    rw [Nat.testBit_and, Nat.testBit_two_pow_sub_succ hm]
    cases m.testBit i <;> simp
  rw [hz]; simp
theorem drop_low (k m : Nat) : (2 ^ (k + 1) * m + 2 ^ k) &&& (2 ^ (k + 1) * m + 2 ^ k - 1) = 2 ^ (k + 1) * m := by
  have hp : 0 < 2 ^ k := Nat.two_pow_pos k
  have h1 := pow_half k
  rw [Nat.add_sub_assoc hp, and_cut (k + 1) _ _ _ _ h1 (by omega), Nat.and_self, Nat.and_two_pow_sub_one_eq_mod, Nat.mod_self, Nat.add_zero]
theorem filter_split (s k : Nat) (hk : k < 64) : listN s = (List.range k).filter (fun i => s.testBit i) ++ ((if s.testBit k then [k] else []) ++ ((List.range (63 - k)).map (fun j => k + 1 + j)).filter fun i => s.testBit i) := by
  unfold listN
  rw [show 64 = k + 1 + (63 - k) from by omega, List.range_add, List.range_succ, List.filter_append, List.filter_append, List.append_assoc]
  congr 2
  · by_cases h : s.testBit k <;> simp [h]
theorem list_low (k m : Nat) (hk : k < 64) : listN (2 ^ (k + 1) * m + 2 ^ k) = k :: listN (2 ^ (k + 1) * m) := by
  have ta : ∀ j, (2 ^ (k + 1) * m + 2 ^ k).testBit j = if j < k + 1 then (2 ^ k).testBit j else m.testBit (j - (k + 1)) := fun j => Nat.testBit_two_pow_mul_add m (pow_half k) j
  have tb : ∀ j, (2 ^ (k + 1) * m).testBit j = if j < k + 1 then false else m.testBit (j - (k + 1)) := by
    intro j
    have := Nat.testBit_two_pow_mul_add m (i := k + 1) (b := 0) (Nat.two_pow_pos _) j
    simpa using this
  rw [filter_split _ k hk, filter_split (2 ^ (k + 1) * m) k hk]
  have a1 : (List.range k).filter (fun i => (2 ^ (k + 1) * m + 2 ^ k).testBit i) = [] := by
    rw [List.filter_eq_nil_iff]
    intro j hj
    rw [List.mem_range] at hj
    rw [ta, if_pos (by omega), Nat.testBit_two_pow_of_ne (by omega)]
    simp
  have b1 : (List.range k).filter (fun i => (2 ^ (k + 1) * m).testBit i) = [] := by
    rw [List.filter_eq_nil_iff]
    intro j hj
    rw [List.mem_range] at hj
    rw [tb, if_pos (by omega)]
    simp
  have a2 : (2 ^ (k + 1) * m + 2 ^ k).testBit k = true := by rw [ta, if_pos (by omega), Nat.testBit_two_pow_self]
  have b2 : (2 ^ (k + 1) * m).testBit k = false := by rw [tb, if_pos (by omega)]
  have c : ((List.range (63 - k)).map (fun j => k + 1 + j)).filter (fun i => (2 ^ (k + 1) * m + 2 ^ k).testBit i) = ((List.range (63 - k)).map (fun j => k + 1 + j)).filter fun i => (2 ^ (k + 1) * m).testBit i := by
    apply List.filter_congr
    intro j hj
    obtain ⟨i, _, rfl⟩ := List.mem_map.1 hj
    rw [ta, tb, if_neg (by omega), if_neg (by omega)]
  rw [a1, b1, a2, b2, c]
  simp
/-- The table of the library: where a power of two comes to. -/
def tabN : List Nat := [0, 1, 56, 2, 57, 49, 28, 3, 61, 58, 42, 50, 38, 29, 17, 4, 62, 47, 59, 36, 45, 43, 51, 22, 53, 39, 33, 30, 24, 18, 12, 5, 63, 55, 48, 27, 60, 41, 37, 16, 46, 35, 44, 21, 52, 32, 23, 11, 54, 26, 40, 15, 34, 20, 31, 10, 25, 14, 19, 9, 13, 8, 7, 6]
def idxN (k : Nat) : Nat := (2 ^ k * 285870213051353865 % 18446744073709551616) / 288230376151711744
theorem tab_at : ∀ k < 64, idxN k < 64 ∧ tabN.getD (idxN k) 0 = k := by decide +kernel
/-- Is n in s? -/
def hasZ (s : Nat) (n : Int) : Bool := decide (0 ≤ n) && decide (n < 64) && s.testBit n.toNat
theorem list_zero : listN 0 = [] := by decide
theorem has_list (s i : Nat) : decide (i ∈ listN s) = (decide (i < 64) && s.testBit i) := by
  rw [Bool.eq_iff_iff]; simp [mem_list]
end Go.Proofs.Ytgmblgpfgdfnaaa
