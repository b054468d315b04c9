/- Values: sums, differences, sizes, products, as the document reckons them. -/
import Derived.Test.YthakimgpaemfeaaV07I
import Derived.Test.YthakimgpaemfeaaL01R
namespace Go.Proofs.Ythakimgpaemfeaa
open Go Go.RowKit
set_option linter.unusedVariables false
set_option linter.unusedSimpArgs false
theorem half_neg (a : Int) (h : a < 0) : a.tdiv 4294967296 = -((-a) / 4294967296) ∧ a.tmod 4294967296 = -((-a) % 4294967296) := by
  obtain ⟨b, rfl⟩ : ∃ b : Nat, a = -(b : Int) := ⟨a.natAbs, by omega⟩
  rw [Int.neg_tdiv, Int.neg_tmod, Int.neg_neg, Int.tdiv_eq_ediv_of_nonneg (by omega), Int.tmod_eq_emod_of_nonneg (by omega)]
  exact ⟨rfl, rfl⟩
theorem ret_two {k k' : IntKind} {a b a' b' : Int} (h : a = a') (h' : b = b') : Ending.returned (.tuple #[.int k a, .int k' b]) = Ending.returned (.tuple #[.int k a', .int k' b']) := by rw [h, h']
theorem half_at (a q r : Int) (hf : fits a) (hq : Hid (q = a / 4294967296)) (hr : Hid (r = a % 4294967296)) (w : World) :
    Calls Try.prog 64 #[.int .i64 a] w fun e w' => e = .returned (.tuple #[.int .i64 q, .int .i64 r]) ∧ w = w' := by
  obtain ⟨f1, f2⟩ := hf
  by_cases h : 0 ≤ a
  · go_enter Try.func64, Try.ntmps64
    go_wp2_with fail
    go_ret2
    exact ⟨ret_two hq.out.symm hr.out.symm, rfl⟩
  · obtain ⟨e1, e2⟩ := half_neg a (by omega)
    obtain ⟨Q, hQ⟩ : ∃ Q, Q = -((-a) / 4294967296) := ⟨_, rfl⟩
    obtain ⟨R, hR⟩ : ∃ R, R = -((-a) % 4294967296) := ⟨_, rfl⟩
    rw [← hQ] at e1
    rw [← hR] at e2
    have b1 : -2147483648 ≤ Q := by omega
    have b2 : Q ≤ 0 := by omega
    have b3 : -4294967296 < R := by omega
    have b4 : R ≤ 0 := by omega
    have HQ := Lib.hid hQ
    have HR := Lib.hid hR
    clear hQ hR
    by_cases hz : R < 0
    · go_enter Try.func64, Try.ntmps64
      go_wp2_with fail
      go_ret2
      refine ⟨ret_two ?_ ?_, rfl⟩
      · have := HQ.out; have := HR.out; have := hq.out; omega
      · have := HQ.out; have := HR.out; have := hr.out; omega
    · go_enter Try.func64, Try.ntmps64
      go_wp2_with fail
      go_ret2
      refine ⟨ret_two ?_ ?_, rfl⟩
      · have := HQ.out; have := HR.out; have := hq.out; omega
      · have := HQ.out; have := HR.out; have := hr.out; omega
/-- The halves of a number. -/
theorem halves (a : Int) (h : fits a) : ∃ q r : Int, Hid (q = a / 4294967296) ∧ Hid (r = a % 4294967296) ∧ Hid (a = q * 4294967296 + r) ∧ -2147483648 ≤ q ∧ q ≤ 2147483647 ∧ 0 ≤ r ∧ r < 4294967296 := by
  obtain ⟨f1, f2⟩ := h
  exact ⟨a / 4294967296, a % 4294967296, rfl, rfl, by show a = _; omega, by omega, by omega, by omega, by omega⟩
theorem ret_nb {a a' : Int} {b b' : Bool} (h : a = a') (h' : b = b') : Ending.returned (.tuple #[.int .i64 a, .bool b]) = Ending.returned (.tuple #[.int .i64 a', .bool b']) := by rw [h, h']
set_option maxRecDepth 100000 in
theorem sum_yes (a b : Int) (ha : fits a) (hb : fits b) (h : fits (a + b)) (w : World) :
    Calls Try.prog 40 #[.int .i64 a, .int .i64 b] w fun e w' => e = .returned (.tuple #[.int .i64 (a + b), .bool true]) ∧ w = w' := by
  obtain ⟨ah, al, x1, x2, x3, x4, x5, x6, x7⟩ := halves a ha
  obtain ⟨bh, bl, y1, y2, y3, y4, y5, y6, y7⟩ := halves b hb
  have HA := fun w => half_at a ah al ha x1 x2 w
  have HB := fun w => half_at b bh bl hb y1 y2 w
  obtain ⟨h1, h2⟩ := h
  have t1 : -2147483648 ≤ ah + bh + (al + bl) / 4294967296 := by have := x3.out; have := y3.out; omega
  have t2 : ah + bh + (al + bl) / 4294967296 ≤ 2147483647 := by have := x3.out; have := y3.out; omega
  clear h1 h2 x1 x2 y1 y2 ha hb
  go_enter Try.func40, Try.ntmps40
  go_wp2_with fail
  refine (HA _).mono ?_
  rintro e w' ⟨rfl, rfl⟩
  go_wp2_with fail
  refine (HB _).mono ?_
  rintro e w' ⟨rfl, rfl⟩
  go_wp2_with fail
  go_ret2
  refine ⟨ret_nb ?_ rfl, rfl⟩
  have := x3.out; have := y3.out; omega
set_option maxRecDepth 100000 in
theorem sum_no (a b : Int) (ha : fits a) (hb : fits b) (h : ¬ fits (a + b)) (w : World) :
    Calls Try.prog 40 #[.int .i64 a, .int .i64 b] w fun e w' => e = .returned (.tuple #[.int .i64 0, .bool false]) ∧ w = w' := by
  obtain ⟨ah, al, x1, x2, x3, x4, x5, x6, x7⟩ := halves a ha
  obtain ⟨bh, bl, y1, y2, y3, y4, y5, y6, y7⟩ := halves b hb
  have HA := fun w => half_at a ah al ha x1 x2 w
  have HB := fun w => half_at b bh bl hb y1 y2 w
  have t : ah + bh + (al + bl) / 4294967296 < -2147483648 ∨ 2147483647 < ah + bh + (al + bl) / 4294967296 := by
    have := x3.out; have := y3.out
    unfold fits at h
    omega
  clear h x1 x2 y1 y2 ha hb
  rcases t with t | t
  all_goals
    go_enter Try.func40, Try.ntmps40
    go_wp2_with fail
    refine (HA _).mono ?_
    rintro e w' ⟨rfl, rfl⟩
    go_wp2_with fail
    refine (HB _).mono ?_
    rintro e w' ⟨rfl, rfl⟩
    go_wp2_with fail
    go_ret2
    exact ⟨ret_nb rfl rfl, rfl⟩
set_option maxRecDepth 100000 in
theorem dif_yes (a b : Int) (ha : fits a) (hb : fits b) (h : fits (a - b)) (w : World) :
    Calls Try.prog 41 #[.int .i64 a, .int .i64 b] w fun e w' => e = .returned (.tuple #[.int .i64 (a - b), .bool true]) ∧ w = w' := by
  obtain ⟨ah, al, x1, x2, x3, x4, x5, x6, x7⟩ := halves a ha
  obtain ⟨bh, bl, y1, y2, y3, y4, y5, y6, y7⟩ := halves b hb
  have HA := fun w => half_at a ah al ha x1 x2 w
  have HB := fun w => half_at b bh bl hb y1 y2 w
  obtain ⟨h1, h2⟩ := h
  by_cases hl : al < bl
  · have t1 : -2147483648 ≤ ah - bh - 1 := by have := x3.out; have := y3.out; omega
    have t2 : ah - bh - 1 ≤ 2147483647 := by have := x3.out; have := y3.out; omega
    clear h1 h2 x1 x2 y1 y2 ha hb
    go_enter Try.func41, Try.ntmps41
    go_wp2_with fail
    refine (HA _).mono ?_
    rintro e w' ⟨rfl, rfl⟩
    go_wp2_with fail
    refine (HB _).mono ?_
    rintro e w' ⟨rfl, rfl⟩
    go_wp2_with fail
    go_ret2
    refine ⟨ret_nb ?_ rfl, rfl⟩
    have := x3.out; have := y3.out; omega
  · have t1 : -2147483648 ≤ ah - bh := by have := x3.out; have := y3.out; omega
    have t2 : ah - bh ≤ 2147483647 := by have := x3.out; have := y3.out; omega
    clear h1 h2 x1 x2 y1 y2 ha hb
    go_enter Try.func41, Try.ntmps41
    go_wp2_with fail
    refine (HA _).mono ?_
    rintro e w' ⟨rfl, rfl⟩
    go_wp2_with fail
    refine (HB _).mono ?_
    rintro e w' ⟨rfl, rfl⟩
    go_wp2_with fail
    go_ret2
    refine ⟨ret_nb ?_ rfl, rfl⟩
    have := x3.out; have := y3.out; omega
set_option maxRecDepth 100000 in
theorem dif_no (a b : Int) (ha : fits a) (hb : fits b) (h : ¬ fits (a - b)) (w : World) :
    Calls Try.prog 41 #[.int .i64 a, .int .i64 b] w fun e w' => e = .returned (.tuple #[.int .i64 0, .bool false]) ∧ w = w' := by
  obtain ⟨ah, al, x1, x2, x3, x4, x5, x6, x7⟩ := halves a ha
  obtain ⟨bh, bl, y1, y2, y3, y4, y5, y6, y7⟩ := halves b hb
  have HA := fun w => half_at a ah al ha x1 x2 w
  have HB := fun w => half_at b bh bl hb y1 y2 w
  have t : (al < bl ∧ ah - bh - 1 < -2147483648) ∨ (al < bl ∧ 2147483647 < ah - bh - 1) ∨ (bl ≤ al ∧ ah - bh < -2147483648) ∨ (bl ≤ al ∧ 2147483647 < ah - bh) := by
    have := x3.out; have := y3.out
    unfold fits at h
    omega
  clear h x1 x2 y1 y2 ha hb
  rcases t with ⟨t, t'⟩ | ⟨t, t'⟩ | ⟨t, t'⟩ | ⟨t, t'⟩
  all_goals
    go_enter Try.func41, Try.ntmps41
    go_wp2_with fail
    refine (HA _).mono ?_
    rintro e w' ⟨rfl, rfl⟩
    go_wp2_with fail
    refine (HB _).mono ?_
    rintro e w' ⟨rfl, rfl⟩
    go_wp2_with fail
    go_ret2
    exact ⟨ret_nb rfl rfl, rfl⟩
theorem ret_u {a b : Int} (h : a = b) : Ending.returned (.int .u64 a) = Ending.returned (.int .u64 b) := by rw [h]
theorem size_at (a : Int) (n : Nat) (hn : Hid (n = a.natAbs)) (hf : fits a) (w : World) :
    Calls Try.prog 43 #[.int .i64 a] w fun e w' => e = .returned (.int .u64 (n : Int)) ∧ w = w' := by
  obtain ⟨f1, f2⟩ := hf
  by_cases h : a < 0
  · go_enter Try.func43, Try.ntmps43
    go_wp2_with fail
    go_ret
    refine ⟨ret_u ?_, rfl⟩
    have := hn.out
    omega
  · go_enter Try.func43, Try.ntmps43
    go_wp2_with fail
    go_ret
    refine ⟨ret_u ?_, rfl⟩
    have := hn.out
    rw [hn.out]
    try simp only [IntKind.wrap_u64]
    omega
/-- A size with a sign. -/
def signN (n : Nat) (g : Bool) : Int := if n = 9223372036854775808 then -9223372036854775808 else if g = true then -(n : Int) else n
def signB (n : Nat) (g : Bool) : Bool := if n = 9223372036854775808 then g else true
theorem signed_any (n : Nat) (g : Bool) (hn : n ≤ 9223372036854775808) (w : World) :
    Calls Try.prog 44 #[.int .u64 (n : Int), .bool g] w fun e w' => e = .returned (.tuple #[.int .i64 (signN n g), .bool (signB n g)]) ∧ w = w' := by
  by_cases h : n = 9223372036854775808
  · have e1 : signN n g = -9223372036854775808 := if_pos h
    have e2 : signB n g = g := if_pos h
    rw [e1, e2]
    have h2 : ((n : Int) == 9223372036854775808) = true := by simp [h]
    clear e1 e2 h hn
    go_enter Try.func44, Try.ntmps44
    go_wp2_with fail
    go_ret2
    exact ⟨rfl, rfl⟩
  · have e2 : signB n g = true := if_neg h
    have h2 : ((n : Int) == 9223372036854775808) = false := by simpa using (by omega : ¬ (n : Int) = 9223372036854775808)
    have h3 : n ≤ 9223372036854775807 := by omega
    cases g with
    | true =>
      have e1 : signN n true = -(n : Int) := by unfold signN; rw [if_neg h, if_pos rfl]
      rw [e1, e2]
      clear e1 e2 h hn
      go_enter Try.func44, Try.ntmps44
      go_wp2_with fail
      go_ret2
      exact ⟨ret_nb rfl rfl, rfl⟩
    | false =>
      have e1 : signN n false = (n : Int) := by unfold signN; rw [if_neg h, if_neg (by simp)]
      rw [e1, e2]
      clear e1 e2 h hn
      go_enter Try.func44, Try.ntmps44
      go_wp2_with fail
      go_ret2
      exact ⟨ret_nb rfl rfl, rfl⟩
end Go.Proofs.Ythakimgpaemfeaa
