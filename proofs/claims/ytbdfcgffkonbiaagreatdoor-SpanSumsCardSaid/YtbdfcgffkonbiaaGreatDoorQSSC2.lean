/- Values: what may be, which is ahead, sums and products that fit. Plain mathematics. -/
import Derived.Lib.Bytealg
import Derived.IntWalk
import Derived.RowKit
namespace Go.Proofs.YtbdfcgffkonbiaaGreatDoor.V7
open Go Go.RowKit
set_option linter.unusedVariables false
set_option linter.unusedSimpArgs false
/-- A value: its kind, its number, its text. -/
structure V where
  k : Int
  i : Int
  s : List UInt8
def V.Wf (a : V) : Prop := (-9223372036854775808 ≤ a.k ∧ a.k ≤ 9223372036854775807) ∧ (-9223372036854775808 ≤ a.i ∧ a.i ≤ 9223372036854775807)
def mayB (a : V) : Bool := decide ((a.k = 0 ∧ a.i = 0 ∧ a.s = []) ∨ (a.k = 1 ∧ (a.i = 0 ∨ a.i = 1) ∧ a.s = []) ∨ (a.k = 2 ∧ a.s = []) ∨ (a.k = 3 ∧ a.i = 0 ∧ a.s.length ≤ 64))
def sgn3 (a b : Int) : Int := if a < b then -1 else if b < a then 1 else 0
open Lib in
theorem cb_self : ∀ a, compareBytes a a = 0
  | [] => rfl
  | x :: a => by unfold compareBytes; rw [if_neg (UInt8.lt_irrefl x), if_neg (UInt8.lt_irrefl x)]; exact cb_self a
open Lib in
theorem cb_zero : ∀ a b, compareBytes a b = 0 → a = b
  | [], [], _ => rfl
  | [], _ :: _, h => by simp [compareBytes] at h
  | _ :: _, [], h => by simp [compareBytes] at h
  | x :: a, y :: b, h => by
    unfold compareBytes at h
    split at h
    · simp at h
    · split at h
      · simp at h
      · rename_i h1 h2
        have e : x = y := UInt8.le_antisymm (UInt8.not_lt.1 h2) (UInt8.not_lt.1 h1)
        rw [e, cb_zero a b h]
open Lib in
theorem cb_flip : ∀ a b, compareBytes b a = - compareBytes a b
  | [], [] => rfl
  | [], _ :: _ => rfl
  | _ :: _, [] => rfl
  | x :: a, y :: b => by
    unfold compareBytes
    by_cases h1 : x < y
    · have h2 : ¬ y < x := fun h => UInt8.lt_irrefl x (UInt8.lt_trans h1 h)
      rw [if_pos h1, if_neg h2, if_pos h1]; rfl
    · by_cases h2 : y < x
      · rw [if_pos h2, if_neg h1, if_pos h2]
      · rw [if_neg h1, if_neg h2, if_neg h2, if_neg h1]; exact cb_flip a b
open Lib in
theorem cb_range : ∀ a b, compareBytes a b = -1 ∨ compareBytes a b = 0 ∨ compareBytes a b = 1
  | [], [] => by simp [compareBytes]
  | [], _ :: _ => by simp [compareBytes]
  | _ :: _, [] => by simp [compareBytes]
  | x :: a, y :: b => by
    unfold compareBytes
    split
    · exact .inl rfl
    · split
      · exact .inr (.inr rfl)
      · exact cb_range a b
open Lib in
theorem cb_trans : ∀ a b c, compareBytes a b < 0 → compareBytes b c < 0 → compareBytes a c < 0
  | [], [], _, h, _ => by simp [compareBytes] at h
  | [], _ :: _, [], _, h => by simp [compareBytes] at h
  | [], _ :: _, _ :: _, _, _ => by simp [compareBytes]
  | _ :: _, [], _, h, _ => by simp [compareBytes] at h
  | _ :: _, _ :: _, [], _, h => by simp [compareBytes] at h
  | x :: a, y :: b, z :: c, h1, h2 => by
    unfold compareBytes at *
    by_cases xy : x < y
    · by_cases yz : y < z
      · rw [if_pos (UInt8.lt_trans xy yz)]; decide
      · by_cases zy : z < y
        · rw [if_neg yz, if_pos zy] at h2; simp at h2
        · have e : y = z := UInt8.le_antisymm (UInt8.not_lt.1 zy) (UInt8.not_lt.1 yz)
          rw [← e, if_pos xy]; decide
    · by_cases yx : y < x
      · rw [if_neg xy, if_pos yx] at h1; simp at h1
      · have e : x = y := UInt8.le_antisymm (UInt8.not_lt.1 yx) (UInt8.not_lt.1 xy)
        subst e
        rw [if_neg xy, if_neg xy] at h1
        by_cases yz : x < z
        · rw [if_pos yz]; decide
        · by_cases zy : z < x
          · rw [if_neg yz, if_pos zy] at h2; simp at h2
          · rw [if_neg yz, if_neg zy] at h2 ⊢
            exact cb_trans a b c h1 h2
/-- How two values are to one another. -/
def ordV (a b : V) : Int := if sgn3 a.k b.k ≠ 0 then sgn3 a.k b.k else if sgn3 a.i b.i ≠ 0 then sgn3 a.i b.i else Lib.compareBytes a.s b.s
theorem ordV_range (a b : V) : ordV a b = -1 ∨ ordV a b = 0 ∨ ordV a b = 1 := by
  unfold ordV sgn3
  have := cb_range a.s b.s
  repeat' split
  all_goals first | omega | exact this
theorem ordV_zero (a b : V) : ordV a b = 0 ↔ a = b := by
  constructor
  · intro h
    unfold ordV sgn3 at h
    have hk : a.k = b.k := by
      by_cases h1 : a.k < b.k
      · simp [h1] at h
      · by_cases h2 : b.k < a.k
        · simp [h1, h2] at h
        · omega
    have hi : a.i = b.i := by
      by_cases h1 : a.i < b.i
      · simp [h1, hk] at h
      · by_cases h2 : b.i < a.i
        · simp [h1, h2, hk] at h
        · omega
    simp [hk, hi] at h
    have hs := cb_zero _ _ h
    cases a; cases b; simp_all
  · rintro rfl
    unfold ordV sgn3
    simp [cb_self]
theorem ordV_flip (a b : V) : ordV b a = - ordV a b := by
  unfold ordV sgn3
  have := cb_flip a.s b.s
  repeat' split
  all_goals first | omega | exact this
theorem ordV_trans (a b c : V) (h1 : ordV a b < 0) (h2 : ordV b c < 0) : ordV a c < 0 := by
  have T := cb_trans a.s b.s c.s
  have Z1 : Lib.compareBytes a.s b.s < 0 ∨ ¬ Lib.compareBytes a.s b.s < 0 := Decidable.em _
  unfold ordV sgn3 at *
  by_cases k1 : a.k < b.k
  · by_cases k2 : b.k < c.k
    · rw [if_pos (show a.k < c.k by omega)]; simp
    · by_cases k3 : c.k < b.k
      · simp [k2, k3] at h2
      · rw [if_pos (show a.k < c.k by omega)]; simp
  · by_cases k1' : b.k < a.k
    · simp [k1, k1'] at h1
    · have ek : a.k = b.k := by omega
      by_cases k2 : b.k < c.k
      · rw [if_pos (show a.k < c.k by omega)]; simp
      · by_cases k3 : c.k < b.k
        · simp [k2, k3] at h2
        · have ek2 : b.k = c.k := by omega
          simp only [ek, ek2, Int.lt_irrefl, if_false, ne_eq, not_true, not_false_eq_true] at h1 h2 ⊢
          by_cases i1 : a.i < b.i
          · by_cases i2 : b.i < c.i
            · rw [if_pos (show a.i < c.i by omega)]; simp
            · by_cases i3 : c.i < b.i
              · simp [i2, i3] at h2
              · rw [if_pos (show a.i < c.i by omega)]; simp
          · by_cases i1' : b.i < a.i
            · simp [i1, i1'] at h1
            · have ei : a.i = b.i := by omega
              by_cases i2 : b.i < c.i
              · rw [if_pos (show a.i < c.i by omega)]; simp
              · by_cases i3 : c.i < b.i
                · simp [i2, i3] at h2
                · have ei2 : b.i = c.i := by omega
                  simp only [ei, ei2, Int.lt_irrefl, if_false, ne_eq, not_true, not_false_eq_true] at h1 h2 ⊢
                  exact T h1 h2
def fits (n : Int) : Prop := -9223372036854775808 ≤ n ∧ n ≤ 9223372036854775807
instance (n : Int) : Decidable (fits n) := by unfold fits; infer_instance
theorem wrap64_of {n : Int} (h : fits n) : wrap64 n = n := by unfold fits at h; unfold wrap64; omega
theorem wrap64_fits (n : Int) : fits (wrap64 n) := by unfold fits wrap64; omega
theorem wrap64_near (n : Int) : ∃ t : Int, wrap64 n = n + 18446744073709551616 * t := ⟨-((n + 9223372036854775808) / 18446744073709551616), by unfold wrap64; omega⟩
/-- What the program asks of a sum. -/
theorem sum_over (x y : Int) (hx : fits x) (hy : fits y) : (((decide (x < wrap64 (x + y))) != (decide (0 < y))) && (y != 0)) = !decide (fits (x + y)) := by
  rw [Bool.eq_iff_iff]
  simp only [Bool.and_eq_true, bne_iff_ne, ne_eq, decide_eq_decide, Bool.not_eq_true', decide_eq_false_iff_not]
  unfold fits at *
  have w : (wrap64 (x + y) = x + y ∧ -9223372036854775808 ≤ x + y ∧ x + y ≤ 9223372036854775807) ∨ (wrap64 (x + y) = x + y - 18446744073709551616 ∧ 9223372036854775807 < x + y) ∨ (wrap64 (x + y) = x + y + 18446744073709551616 ∧ x + y < -9223372036854775808) := by unfold wrap64; omega
  generalize wrap64 (x + y) = z at w
  constructor
  · rintro ⟨h1, h2⟩ h3
    exact h1 ⟨fun _ => by omega, fun _ => by omega⟩
  · intro h
    refine ⟨fun hi => ?_, by omega⟩
    by_cases h0 : 0 < y
    · have := hi.2 h0; omega
    · have : ¬ x < z := fun e => h0 (hi.1 e)
      omega
theorem dif_over (x y : Int) (hx : fits x) (hy : fits y) : (((decide (wrap64 (x - y) < x)) != (decide (0 < y))) && (y != 0)) = !decide (fits (x - y)) := by
  rw [Bool.eq_iff_iff]
  simp only [Bool.and_eq_true, bne_iff_ne, ne_eq, decide_eq_decide, Bool.not_eq_true', decide_eq_false_iff_not]
  unfold fits at *
  have w : (wrap64 (x - y) = x - y ∧ -9223372036854775808 ≤ x - y ∧ x - y ≤ 9223372036854775807) ∨ (wrap64 (x - y) = x - y - 18446744073709551616 ∧ 9223372036854775807 < x - y) ∨ (wrap64 (x - y) = x - y + 18446744073709551616 ∧ x - y < -9223372036854775808) := by unfold wrap64; omega
  generalize wrap64 (x - y) = z at w
  constructor
  · rintro ⟨h1, h2⟩ h3
    exact h1 ⟨fun _ => by omega, fun _ => by omega⟩
  · intro h
    refine ⟨fun hi => ?_, by omega⟩
    by_cases h0 : 0 < y
    · have := hi.2 h0; omega
    · have : ¬ z < x := fun e => h0 (hi.1 e)
      omega
theorem tmod_small (z y : Int) (hy : y ≠ 0) : (z.tmod y).natAbs < y.natAbs := by
  rw [Int.natAbs_tmod]
  exact Nat.mod_lt _ (by omega)
/-- What the program asks of a product. -/
theorem mul_over (x y : Int) (hx : fits x) (hy : fits y) (h0 : y ≠ 0) : (((wrap64 ((wrap64 (x * y)).tdiv y)) != x) || ((y == -1) && (x == -9223372036854775808))) = !decide (fits (x * y)) := by
  obtain ⟨t, ht⟩ := wrap64_near (x * y)
  have hw := wrap64_fits (x * y)
  rw [Bool.eq_iff_iff]
  simp only [Bool.or_eq_true, bne_iff_ne, ne_eq, Bool.and_eq_true, beq_iff_eq, Bool.not_eq_true', decide_eq_false_iff_not]
  by_cases hf : fits (x * y)
  · rw [wrap64_of hf, Int.mul_tdiv_cancel _ h0, wrap64_of hx]
    constructor
    · rintro (h | ⟨rfl, rfl⟩)
      · exact absurd rfl h
      · unfold fits at hf; omega
    · intro h; exact absurd hf h
  · refine ⟨fun _ => hf, fun _ => ?_⟩
    by_cases hs : y = -1 ∧ x = -9223372036854775808
    · exact .inr hs
    · refine .inl fun he => hf ?_
      have e := Int.mul_tdiv_add_tmod (wrap64 (x * y)) y
      have sm := tmod_small (wrap64 (x * y)) y h0
      generalize hz : wrap64 (x * y) = z at *
      have hq : fits (z.tdiv y) ∨ (z = -9223372036854775808 ∧ y = -1) := by
        by_cases hy1 : y = -1
        · subst hy1
          rw [Int.tdiv_neg, Int.tdiv_one]
          unfold fits at *
          omega
        · left
          have h1 : (z.tdiv y).natAbs = z.natAbs / y.natAbs := Int.natAbs_tdiv z y
          have h2 : z.natAbs / y.natAbs ≤ z.natAbs := Nat.div_le_self _ _
          by_cases hy2 : y = 1
          · subst hy2; rw [Int.tdiv_one]; exact hw
          · have h3 : z.natAbs / y.natAbs ≤ z.natAbs / 2 := Nat.div_le_div_left (by omega) (by decide)
            unfold fits at *
            omega
      rcases hq with hq | ⟨h1, h2⟩
      · rw [wrap64_of hq] at he
        rw [he] at e
        have e2 : y * x = x * y := Int.mul_comm y x
        rw [e2] at e
        have ht0 : t = 0 := by
          generalize x * y = p at *
          generalize z.tmod y = r at *
          unfold fits at *
          omega
        subst ht0
        have : x * y = z := by omega
        rw [this]; exact hw
      · subst h2
        rw [h1] at he
        rw [Int.tdiv_neg, Int.tdiv_one] at he
        exfalso
        apply hs
        refine ⟨rfl, ?_⟩
        rw [← he]
        unfold wrap64
        omega
end Go.Proofs.YtbdfcgffkonbiaaGreatDoor.V7
