/- Quorums: what sets have in common. Plain mathematics. -/
import Derived.Test.YtgmblgpfgdfnaaaQMM17
namespace Go.Proofs.Ytgmblgpfgdfnaaa
set_option linter.unusedVariables false
set_option linter.unusedSimpArgs false
theorem pop_count (t : Nat) : popK 64 t = (List.range 64).countP fun i => t.testBit i := by
  rw [← list_len, listN, List.countP_eq_length_filter]
theorem count_two (p q r : Nat → Bool) (hp : ∀ i, p i = true → r i = true) (hq : ∀ i, q i = true → r i = true) : ∀ l : List Nat, l.countP p + l.countP q ≤ l.countP r + l.countP fun i => p i && q i
  | [] => by simp
  | i :: l => by
    have ih := count_two p q r hp hq l
    have h1 := hp i
    have h2 := hq i
    simp only [List.countP_cons]
    cases ep : p i <;> cases eq : q i <;> cases er : r i <;> simp_all <;> omega
theorem count_rest (p d : Nat → Bool) : ∀ l : List Nat, l.countP p ≤ (l.countP fun i => p i && !d i) + l.countP d
  | [] => by simp
  | i :: l => by
    have ih := count_rest p d l
    simp only [List.countP_cons]
    cases ep : p i <;> cases ed : d i <;> simp <;> omega
theorem count_eq {p q : Nat → Bool} (h : ∀ i, i < 64 → p i = q i) : (List.range 64).countP p = (List.range 64).countP q := by
  apply List.countP_congr
  intro i hi
  rw [h i (List.mem_range.1 hi)]
theorem not_bit (d i : Nat) (hd : d < 18446744073709551616) (hi : i < 64) : (18446744073709551615 - d).testBit i = !d.testBit i := by
  have e : 18446744073709551615 - d = 2 ^ 64 - (d + 1) := by simp
  rw [e, Nat.testBit_two_pow_sub_succ (by simpa using hd)]
  simp [hi]
/-- How many of a set lie below n. -/
def cntN (s : Nat) (n : Int) : Nat := popK 64 (s &&& allZ n)
theorem all_count (n : Int) (k : Int) (h : fN n = k) (hk : k ≠ 0) : n = 3 * k + 1 ∧ 1 ≤ k ∧ k ≤ 5 ∧ popK 64 (allZ n) = n.toNat := by
  rcases fN_cases n with ⟨rfl, h1⟩ | ⟨rfl, h1⟩ | ⟨rfl, h1⟩ | ⟨rfl, h1⟩ | ⟨rfl, h1⟩ | ⟨h1, _⟩
  case inr.inr.inr.inr.inr => omega
  all_goals
    rw [h1] at h
    subst h
    exact ⟨by decide, by decide, by decide, by decide +kernel⟩
theorem meet_cnt (a b : Nat) (n : Int) : cntN a n + cntN b n ≤ popK 64 (allZ n) + cntN (a &&& b) n := by
  unfold cntN
  rw [pop_count, pop_count, pop_count, pop_count]
  have h := count_two (fun i => (a &&& allZ n).testBit i) (fun i => (b &&& allZ n).testBit i) (fun i => (allZ n).testBit i)
    (fun i hi => by rw [Nat.testBit_and, Bool.and_eq_true] at hi; exact hi.2) (fun i hi => by rw [Nat.testBit_and, Bool.and_eq_true] at hi; exact hi.2) (List.range 64)
  refine Nat.le_trans h (Nat.add_le_add_left (Nat.le_of_eq (count_eq fun i _ => ?_)) _)
  simp only [Nat.testBit_and]
  cases a.testBit i <;> cases b.testBit i <;> cases (allZ n).testBit i <;> rfl
theorem rest_cnt (a d : Nat) (n : Int) (hd : d < 18446744073709551616) : cntN a n ≤ popK 64 ((a &&& allZ n) &&& (18446744073709551615 - d)) + popK 64 d := by
  unfold cntN
  rw [pop_count, pop_count, pop_count]
  have h := count_rest (fun i => (a &&& allZ n).testBit i) (fun i => d.testBit i) (List.range 64)
  refine Nat.le_trans h (Nat.add_le_add_right (Nat.le_of_eq (count_eq fun i hi => ?_)) _)
  rw [Nat.testBit_and _ (18446744073709551615 - d), not_bit d i hd hi]
theorem rest_eq (a d : Nat) (n : Int) : cntN (a &&& (18446744073709551615 - d)) n = popK 64 ((a &&& allZ n) &&& (18446744073709551615 - d)) := by
  unfold cntN
  congr 1
  rw [Nat.and_assoc, Nat.and_comm (18446744073709551615 - d) (allZ n), ← Nat.and_assoc]
theorem enough_cnt (s : Nat) (n l : Int) (hl : 0 < l) : enoughB s n l = decide (l ≤ (cntN s n : Int)) := by
  unfold enoughB cntN
  rw [show decide (0 < l) = true by simpa using hl]; rfl
end Go.Proofs.Ytgmblgpfgdfnaaa
