/- Quorums: the document's sets; the set of a list. -/
import Derived.Test.YtlhdbggjablofaaDoorQ05H
namespace Go.Proofs.YtlhdbggjablofaaDoor
open Go.RowKit
set_option linter.unusedVariables false
set_option linter.unusedSimpArgs false
theorem bit_div (s n : Nat) : s.testBit n = decide (s / 2 ^ n % 2 = 1) := Nat.testBit_eq_decide_div_mod_eq
theorem hasZ_in (s n : Nat) (h : n < 64) : hasZ s (n : Int) = s.testBit n := by
  unfold hasZ
  have h1 : decide ((0 : Int) ≤ (n : Int)) = true := by simp
  have h2 : decide ((n : Int) < 64) = true := by simp; omega
  rw [h1, h2, Int.toNat_natCast]; simp
theorem hasZ_out (s : Nat) (n : Int) (h : n < 0 ∨ 63 < n) : hasZ s n = false := by
  unfold hasZ
  rcases h with h | h
  · rw [show decide (0 ≤ n) = false by simp; omega]; rfl
  · rw [show decide (n < 64) = false by simp; omega]; simp
set_option maxRecDepth 100000 in
set_option maxHeartbeats 400000 in
theorem refHas_any (s : Nat) (hs : s < 18446744073709551616) (n : Int) (w : World) :
    Calls Tryd.prog 17 #[.int .u64 (s : Int), .int .i64 n] w fun e w' => e = .returned (.bool (hasZ s n)) ∧ w = w' := by
  rcases (show n < 0 ∨ (0 ≤ n ∧ 63 < n) ∨ (0 ≤ n ∧ n ≤ 63) by omega) with h | ⟨h0, h⟩ | ⟨h0, h⟩
  · rw [hasZ_out s n (.inl h)]
    go_enter Tryd.func17, Tryd.ntmps17
    go_wp2_with fail
    go_ret
    exact ⟨rfl, rfl⟩
  · rw [hasZ_out s n (.inr h)]
    go_enter Tryd.func17, Tryd.ntmps17
    go_wp2_with fail
    go_ret
    exact ⟨rfl, rfl⟩
  · obtain ⟨m, rfl⟩ := Int.eq_ofNat_of_zero_le h0
    rw [hasZ_in s m (by omega), bit_div]
    have hm : m ≤ 63 := by omega
    clear h h0
    go_enter Tryd.func17, Tryd.ntmps17
    go_wp2_with fail
    go_loop [5, 6] (fun x i => ∃ k q : Nat, k ≤ m ∧ i = .int .i64 (k : Int) ∧ x = .int .u64 (q : Int) ∧ q < 18446744073709551616 ∧ Hid (q = s / 2 ^ k)) (fun _ i => m - (intOf i).toNat)
    case atStart => exact ⟨0, s, Nat.zero_le _, rfl, rfl, hs, by simp [Hid]⟩
    case round =>
      obtain ⟨k, q, hk, rfl, rfl, hq, hd⟩ := hrel
      by_cases hlt : k < m
      · have hd2 : q / 2 = s / 2 ^ (k + 1) := by rw [hd.out, Nat.div_div_eq_div_mul, Nat.pow_succ]
        have HD := Lib.hid hd2
        clear hd hd2 hs
        go_wp2_with fail
        exact ⟨⟨k + 1, q / 2, by omega, by push_cast; rfl, by push_cast; rfl, by omega, HD⟩, by simp [intOf]; omega⟩
      · obtain rfl : k = m := by omega
        have hr : (((q : Int) % 2 == 1) : Bool) = decide (s / 2 ^ k % 2 = 1) := by
          rw [← hd.out, Bool.eq_iff_iff]; simp; omega
        have HR := Lib.hid hr
        clear hr hd hs
        go_wp2_with fail
        go_ret
        exact ⟨by rw [← HR.out]; rfl, rfl⟩
/-- The set of a list. -/
def ofZ : List Int → Nat → Nat
  | [], s => s
  | n :: l, s => ofZ l (s ||| bitZ n)
theorem or_lt {a b : Nat} (ha : a < 18446744073709551616) (hb : b < 18446744073709551616) : a ||| b < 18446744073709551616 := by
  have := Nat.or_lt_two_pow (n := 64) (x := a) (y := b) (by simpa using ha) (by simpa using hb)
  simpa using this
theorem ofZ_lt : ∀ (l : List Int) (s : Nat), s < 18446744073709551616 → ofZ l s < 18446744073709551616
  | [], s, h => h
  | n :: l, s, h => ofZ_lt l _ (or_lt h (bitZ_lt n))
theorem ofZ_snoc (l : List Int) (n : Int) (s : Nat) : ofZ (l ++ [n]) s = ofZ l s ||| bitZ n := by
  induction l generalizing s with
  | nil => rfl
  | cons a l ih => exact ih _
theorem bitZ_bit (n : Int) (i : Nat) (hi : i < 64) : (bitZ n).testBit i = decide (n = (i : Int)) := by
  unfold bitZ
  split
  · rename_i h
    by_cases e : n.toNat = i
    · rw [e, Nat.testBit_two_pow_self]; simp; omega
    · rw [Nat.testBit_two_pow_of_ne e]; simp; omega
  · simp; omega
theorem ofZ_bit (l : List Int) (s i : Nat) (hi : i < 64) : (ofZ l s).testBit i = (s.testBit i || decide ((i : Int) ∈ l)) := by
  induction l generalizing s with
  | nil => simp [ofZ]
  | cons n l ih =>
    rw [ofZ, ih, Nat.testBit_or, bitZ_bit n i hi, Bool.or_assoc]
    congr 1
    by_cases h : n = (i : Int)
    · simp [h]
    · have : ¬ (i : Int) = n := fun e => h e.symm
      simp [h, this]
end Go.Proofs.YtlhdbggjablofaaDoor
