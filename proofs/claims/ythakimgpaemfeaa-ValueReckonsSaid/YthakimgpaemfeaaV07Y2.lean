/- Values: products, as the document reckons them, bit by bit. -/
import Derived.Test.YthakimgpaemfeaaV07Y
namespace Go.Proofs.Ythakimgpaemfeaa
open Go Go.RowKit
set_option linter.unusedVariables false
set_option linter.unusedSimpArgs false
theorem prod_step (X Y i : Nat) : X * (Y / 2 ^ i) = 2 * (X * (Y / 2 ^ (i + 1))) + X * (Y / 2 ^ i % 2) := by
  have e : Y / 2 ^ (i + 1) = Y / 2 ^ i / 2 := by rw [Nat.pow_succ, Nat.div_div_eq_div_mul]
  rw [e]
  have := Nat.div_add_mod (Y / 2 ^ i) 2
  generalize Y / 2 ^ i = q at *
  conv => lhs; rw [← this]
  rw [Nat.mul_add, Nat.mul_left_comm]
theorem prod_le (X Y i : Nat) : X * (Y / 2 ^ i) ≤ X * Y := Nat.mul_le_mul_left _ (Nat.div_le_self _ _)
theorem prod_le2 (X Y i : Nat) : 2 * (X * (Y / 2 ^ (i + 1))) ≤ X * Y := by
  have h := prod_step X Y i
  have h2 := prod_le X Y i
  omega
/-- A product that fits, its sign told. -/
def prodN (a b : Int) : Int := if 9223372036854775808 < a.natAbs * b.natAbs then 0 else signN (a.natAbs * b.natAbs) (decide (a < 0) != decide (b < 0))
def prodB (a b : Int) : Bool := if 9223372036854775808 < a.natAbs * b.natAbs then false else signB (a.natAbs * b.natAbs) (decide (a < 0) != decide (b < 0))
theorem bit_and (Y j : Nat) (h : Y ≤ 9223372036854775808) : bits BinOp.and IntKind.u64 ((Y : Int) / 2 ^ j) 1 = ((Y / 2 ^ j % 2 : Nat) : Int) := by
  have e : (Y : Int) / 2 ^ j = ((Y / 2 ^ j : Nat) : Int) := by simp
  have l : Y / 2 ^ j < 18446744073709551616 := Nat.lt_of_le_of_lt (Nat.div_le_self _ _) (by omega)
  have ea := u64_and_nat (Y / 2 ^ j) 1 l (by decide)
  rw [Nat.and_one_is_mod] at ea
  rw [e]
  exact ea
set_option maxRecDepth 100000 in
set_option maxHeartbeats 1000000 in
theorem product_any (a b : Int) (ha : fits a) (hb : fits b) (w : World) :
    Calls Try.prog 42 #[.int .i64 a, .int .i64 b] w fun e w' => e = .returned (.tuple #[.int .i64 (prodN a b), .bool (prodB a b)]) ∧ w = w' := by
  obtain ⟨X, hX⟩ : ∃ X, X = a.natAbs := ⟨_, rfl⟩
  obtain ⟨Y, hY⟩ : ∃ Y, Y = b.natAbs := ⟨_, rfl⟩
  have bX : X ≤ 9223372036854775808 := by have := ha.1; have := ha.2; omega
  have bY : Y ≤ 9223372036854775808 := by have := hb.1; have := hb.2; omega
  have SA := fun w => size_at a X hX ha w
  have SB := fun w => size_at b Y hY hb w
  obtain ⟨R, hR⟩ : ∃ R, R = prodN a b := ⟨_, rfl⟩
  obtain ⟨B, hB⟩ : ∃ B, B = prodB a b := ⟨_, rfl⟩
  rw [← hR, ← hB]
  obtain ⟨g, hg⟩ : ∃ g, g = (decide (a < 0) != decide (b < 0)) := ⟨_, rfl⟩
  unfold prodN at hR
  unfold prodB at hB
  rw [← hX, ← hY, ← hg] at hR hB
  have HR := Lib.hid hR
  have HB := Lib.hid hB
  have hg2 : (!(decide (a < 0) == decide (b < 0))) = g := by rw [hg]; rfl
  clear hR hB hg hX hY ha hb
  go_enter Try.func42, Try.ntmps42
  go_wp2_with fail
  refine (SA _).mono ?_
  rintro e w' ⟨rfl, rfl⟩
  go_wp2_with fail
  refine (SB _).mono ?_
  rintro e w' ⟨rfl, rfl⟩
  go_wp2_with fail
  go_loop [9, 10] (fun p i => ∃ k P : Nat, k ≤ 64 ∧ P ≤ 9223372036854775808 ∧ i = .int .i64 ((k : Int) - 1) ∧ p = .int .u64 (P : Int) ∧ Hid (P = X * (Y / 2 ^ k))) (fun _ i => (intOf i + 1).toNat)
  case atStart => exact ⟨64, 0, by omega, by omega, rfl, rfl, by show 0 = _; rw [Nat.div_eq_of_lt (by omega), Nat.mul_zero]⟩
  case round =>
    obtain ⟨k, P, hk, hP, rfl, rfl, hp⟩ := hrel
    cases k with
    | zero =>
      have e : P = X * Y := by have := hp.out; simpa using this
      have hr := HR.out
      have hb := HB.out
      rw [if_neg (by omega), ← e] at hr hb
      clear hp e HR HB SA SB
      rw [show (((0 : Nat) : Int) - 1) = -1 from rfl]
      by_cases h : P = 9223372036854775808
      · have e1 : signN P g = -9223372036854775808 := if_pos h
        have e2 : signB P g = g := if_pos h
        rw [e1] at hr
        rw [e2] at hb
        have h2 : ((P : Int) == 9223372036854775808) = true := by simp [h]
        have HR := Lib.hid hr
        have HB := Lib.hid hb
        clear h e1 e2 hr hb hP
        go_wp2_with fail
        go_ret2
        exact ⟨ret_nb HR.out.symm HB.out.symm, rfl⟩
      · have e2 : signB P g = true := if_neg h
        have h2 : ((P : Int) == 9223372036854775808) = false := by simpa using (by omega : ¬ (P : Int) = 9223372036854775808)
        have h3 : P ≤ 9223372036854775807 := by omega
        rw [e2] at hb
        have e1 : signN P g = if g = true then -(P : Int) else P := if_neg h
        rw [e1] at hr
        have HR := Lib.hid hr
        have HB := Lib.hid hb
        clear h e1 e2 hr hb hP
        cases g with
        | true =>
          go_wp2_with fail
          go_ret2
          exact ⟨ret_nb (by rw [HR.out]; simp) HB.out.symm, rfl⟩
        | false =>
          go_wp2_with fail
          go_ret2
          exact ⟨ret_nb (by rw [HR.out]; simp) HB.out.symm, rfl⟩
    | succ j =>
      rw [show (((j + 1 : Nat) : Int) - 1) = (j : Int) from by omega]
      have l2 := prod_le2 X Y j
      have st := prod_step X Y j
      have l1 := prod_le X Y j
      rw [← hp.out] at l2 st
      by_cases h1 : 4611686018427387904 < P
      · have hr := HR.out
        have hb := HB.out
        rw [if_pos (by omega)] at hr hb
        subst hr hb
        clear l1 l2 st hp HR HB
        go_wp2_with fail
        go_ret2
        exact ⟨rfl, rfl⟩
      · have hbit := bit_and Y j bY
        have hm : Y / 2 ^ j % 2 = 0 ∨ Y / 2 ^ j % 2 = 1 := by omega
        rcases hm with hm | hm
        · rw [hm] at hbit st
          have hb1 : (bits BinOp.and IntKind.u64 ((Y : Int) / 2 ^ j) 1 == 1) = false := by rw [hbit]; rfl
          have hs : Hid (P + P = X * (Y / 2 ^ j)) := by show _ = _; omega
          clear hbit hm st l1 l2 hp
          go_wp2_with fail
          exact ⟨⟨j, P + P, by omega, by omega, rfl, by push_cast; rfl, hs⟩, by simp [intOf]⟩
        · rw [hm, Nat.mul_one] at st
          rw [hm] at hbit
          have hb1 : (bits BinOp.and IntKind.u64 ((Y : Int) / 2 ^ j) 1 == 1) = true := by rw [hbit]; rfl
          by_cases h2 : 9223372036854775808 < P + P + X
          · have hr := HR.out
            have hb := HB.out
            rw [if_pos (by omega)] at hr hb
            subst hr hb
            clear hbit hm l1 l2 st hp HR HB
            go_wp2_with fail
            go_ret2
            exact ⟨rfl, rfl⟩
          · have hs : Hid (P + P + X = X * (Y / 2 ^ j)) := by show _ = _; omega
            clear hbit hm st l1 l2 hp
            go_wp2_with fail
            exact ⟨⟨j, P + P + X, by omega, by omega, rfl, by push_cast; rfl, hs⟩, by simp [intOf]⟩
end Go.Proofs.Ythakimgpaemfeaa
