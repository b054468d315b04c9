/- Quorums: how many bits are set; one number as a set; what is below a number. -/
import Derived.Test.YtgmblgpfgdfnaaaQMM4
import Derived.Test.YtgmblgpfgdfnaaaQMM6
import Derived.Laws.Bits128
namespace Go.Proofs.Ytgmblgpfgdfnaaa
open Go.RowKit
set_option linter.unusedVariables false
set_option linter.unusedSimpArgs false
theorem u64_and_c {a m : Nat} (ha : a < 18446744073709551616) (hm : m < 18446744073709551616) {r : Nat} (hr : r = a &&& m) {b : Int} (hb : b = (a : Int)) : bits .and .u64 b (m : Int) = (r : Int) := by
  subst hb; subst hr
  exact u64_and_nat a m ha hm
theorem wrap_n {a : Int} {r : Nat} (h : a = (r : Int)) (hr : r < 18446744073709551616) : IntKind.u64.wrap a = (r : Int) := by
  rw [IntKind.wrap_u64]; omega
theorem and_le' (a m : Nat) : a &&& m ≤ m := Nat.and_le_right
theorem small_k {x y : Nat} (h : y < 256 ^ 8) : y < 18446744073709551616 := by simpa using h
theorem and127 (u r : Nat) (h : u % 128 = r) : bits .and .i64 (wrap64 (u : Int)) 127 = (r : Int) := by
  rw [i64_and127]
  unfold wrap64
  omega
theorem keep64 (p : Nat) (h : p < 18446744073709551616) : (p : Int) = IntKind.u64.wrap (p : Int) := by
  rw [IntKind.wrap_u64]; omega
set_option maxRecDepth 100000 in
theorem ones_any (x : Nat) (hx : x < 18446744073709551616) (w : World) :
    Calls Try.prog 85 #[.int .u64 (x : Int)] w fun e w' => e = .returned (.int .i64 (popK 64 x : Nat)) ∧ w = w' := by
  go_enter Try.func85, Try.ntmps85
  go_wp2
  go_ret
  refine ⟨?_, rfl⟩
  have r1 : rep 85 8 = 6148914691236517205 := by decide
  have r2 : rep 51 8 = 3689348814741910323 := by decide
  have r3 : rep 15 8 = 1085102592571150095 := by decide
  obtain ⟨_, l1, l2⟩ := f12_low 8 x (by simpa using hx)
  have sw := swar 8 x (by simpa using hx)
  have L3 := f12_le 8 x (by simpa using hx)
  have r4 : rep 68 8 = 4919131752989213764 := by decide
  rw [r4] at L3
  have L1 := small_k (x := 0) l1
  have L2 := small_k (x := 0) l2
  clear l1 l2
  obtain ⟨y, z, hp, hy, hz, b1, b2, b3, hr⟩ := ones_count x hx
  rw [← sw] at hp hy
  have d1 := and_le' (x / 2) (rep 85 8)
  have d2 := and_le' x (rep 85 8)
  have E1 : IntKind.u64.wrap (bits .and .u64 ((x : Int) / 2) 6148914691236517205 + bits .and .u64 (x : Int) 6148914691236517205) = (f1 8 x : Nat) := by
    have c1 : bits .and .u64 ((x : Int) / 2) 6148914691236517205 = ((x / 2 &&& rep 85 8 : Nat) : Int) := by
      rw [r1]; exact u64_and_c (a := x / 2) (m := 6148914691236517205) (by omega) (by decide) rfl (by push_cast; rfl)
    have c2 : bits .and .u64 (x : Int) 6148914691236517205 = ((x &&& rep 85 8 : Nat) : Int) := by
      rw [r1]; exact u64_and_c (a := x) (m := 6148914691236517205) hx (by decide) rfl rfl
    rw [c1, c2]
    exact wrap_n (by unfold f1; push_cast; rfl) L1
  generalize f1 8 x = y1 at *
  have E2 : IntKind.u64.wrap (bits .and .u64 ((y1 : Int) / 4) 3689348814741910323 + bits .and .u64 (y1 : Int) 3689348814741910323) = (f2 8 y1 : Nat) := by
    have c1 : bits .and .u64 ((y1 : Int) / 4) 3689348814741910323 = ((y1 / 4 &&& rep 51 8 : Nat) : Int) := by
      rw [r2]; exact u64_and_c (a := y1 / 4) (m := 3689348814741910323) (by omega) (by decide) rfl (by push_cast; rfl)
    have c2 : bits .and .u64 (y1 : Int) 3689348814741910323 = ((y1 &&& rep 51 8 : Nat) : Int) := by
      rw [r2]; exact u64_and_c (a := y1) (m := 3689348814741910323) L1 (by decide) rfl rfl
    rw [c1, c2]
    exact wrap_n (by unfold f2; push_cast; rfl) L2
  generalize f2 8 y1 = y2 at *
  have E3 : bits .and .u64 (IntKind.u64.wrap ((y2 : Int) / 16 + (y2 : Int))) 1085102592571150095 = (f3 8 y2 : Nat) := by
    unfold f3
    rw [r3]
    exact u64_and_c (a := y2 / 16 + y2) (m := 1085102592571150095) (by omega) (by decide) rfl (wrap_n (by push_cast; rfl) (by omega))
  generalize f3 8 y2 = y3 at *
  have E4 : IntKind.u64.wrap ((y3 : Int) + (y3 : Int) / 256) = (y : Nat) := wrap_n (by omega) b1
  have E5 : IntKind.u64.wrap ((y : Int) + (y : Int) / 65536) = (z : Nat) := wrap_n (by omega) b2
  have E6 : IntKind.u64.wrap ((z : Int) + (z : Int) / 4294967296) = ((z + z / 4294967296 : Nat) : Int) := wrap_n (by omega) b3
  have hp : popK 64 x < 128 := by have := pop_le 64 x; omega
  have E7 := and127 (z + z / 4294967296) _ hr
  simp only [E1, E2, E3, E4, E5, E6, E7]
  rfl
def bitZ (n : Int) : Nat := if 0 ≤ n ∧ n < 64 then 2 ^ n.toNat else 0
def allZ (n : Int) : Nat := if n < 1 then 0 else if 64 ≤ n then 18446744073709551615 else 2 ^ n.toNat - 1
theorem bitZ_lt (n : Int) : bitZ n < 18446744073709551616 := by
  unfold bitZ
  split
  · have : 2 ^ n.toNat < 2 ^ 64 := Nat.pow_lt_pow_right (by decide) (by omega)
    simpa using this
  · decide
theorem allZ_lt (n : Int) : allZ n < 18446744073709551616 := by
  unfold allZ
  split
  · decide
  · split
    · decide
    · have : 2 ^ n.toNat < 2 ^ 64 := Nat.pow_lt_pow_right (by decide) (by omega)
      simp at this; omega
set_option maxRecDepth 100000 in
theorem bit_any (n : Int) (w : World) :
    Calls Try.prog 72 #[.int .i64 n] w fun e w' => e = .returned (.int .u64 (bitZ n : Nat)) ∧ w = w' := by
  rcases (show (0 ≤ n ∧ n < 64) ∨ n < 0 ∨ (0 ≤ n ∧ 64 ≤ n) by omega) with ⟨h1, h2⟩ | h | ⟨h1, h2⟩
  · have e : (bitZ n : Int) = IntKind.u64.wrap (2 ^ n.toNat) := by
      have h3 := bitZ_lt n
      have h4 : ((2 ^ n.toNat : Nat) : Int) = 2 ^ n.toNat := by push_cast; rfl
      have h5 : bitZ n = 2 ^ n.toNat := by unfold bitZ; rw [if_pos ⟨h1, h2⟩]
      rw [← h4, ← h5]
      exact keep64 _ h3
    rw [e]
    clear e
    go_enter Try.func72, Try.ntmps72
    go_wp2
    go_ret
    exact ⟨rfl, rfl⟩
  · have e : bitZ n = 0 := by unfold bitZ; rw [if_neg (by omega)]
    rw [e]
    clear e
    go_enter Try.func72, Try.ntmps72
    go_wp2
    go_ret
    exact ⟨rfl, rfl⟩
  · have e : bitZ n = 0 := by unfold bitZ; rw [if_neg (by omega)]
    rw [e]
    clear e
    go_enter Try.func72, Try.ntmps72
    go_wp2
    go_ret
    exact ⟨rfl, rfl⟩
set_option maxRecDepth 100000 in
theorem with_any (s : Nat) (hs : s < 18446744073709551616) (n : Int) (w : World) :
    Calls Try.prog 52 #[.int .u64 (s : Int), .int .i64 n] w fun e w' => e = .returned (.int .u64 (s ||| bitZ n : Nat)) ∧ w = w' := by
  have e := u64_or_nat s (bitZ n) hs (bitZ_lt n)
  have B := bit_any n
  rw [← e]
  clear e
  generalize bitZ n = b at B ⊢
  go_enter Try.func52, Try.ntmps52
  go_wp2_with fail
  refine (B _).mono ?_
  rintro e w1 ⟨rfl, rfl⟩
  go_wp2_with fail
  go_ret
  exact ⟨rfl, rfl⟩
set_option maxRecDepth 100000 in
theorem count_any (s : Nat) (hs : s < 18446744073709551616) (w : World) :
    Calls Try.prog 82 #[.int .u64 (s : Int)] w fun e w' => e = .returned (.int .i64 (popK 64 s : Nat)) ∧ w = w' := by
  have B := ones_any s hs
  generalize popK 64 s = b at B ⊢
  go_enter Try.func82, Try.ntmps82
  go_wp2_with fail
  refine (B _).mono ?_
  rintro e w1 ⟨rfl, rfl⟩
  go_wp2_with fail
  go_ret
  exact ⟨rfl, rfl⟩
set_option maxRecDepth 100000 in
theorem all_any (n : Int) (w : World) :
    Calls Try.prog 83 #[.int .i64 n] w fun e w' => e = .returned (.int .u64 (allZ n : Nat)) ∧ w = w' := by
  rcases (show n < 1 ∨ (1 ≤ n ∧ 64 ≤ n) ∨ (1 ≤ n ∧ n < 64) by omega) with h | ⟨h1, h2⟩ | ⟨h1, h2⟩
  · have e : allZ n = 0 := by unfold allZ; rw [if_pos h]
    rw [e]
    clear e
    go_enter Try.func83, Try.ntmps83
    go_wp2
    go_ret
    exact ⟨rfl, rfl⟩
  · have e : allZ n = 18446744073709551615 := by unfold allZ; rw [if_neg (by omega), if_pos h2]
    rw [e]
    clear e
    go_enter Try.func83, Try.ntmps83
    go_wp2
    go_ret
    exact ⟨rfl, rfl⟩
  · have e : (allZ n : Int) = IntKind.u64.wrap ((bitZ n : Int) - 1) := by
      have h3 := bitZ_lt n
      have h4 : 0 < 2 ^ n.toNat := Nat.two_pow_pos _
      rw [IntKind.wrap_u64]
      unfold allZ bitZ at *
      rw [if_neg (by omega), if_neg (by omega)]
      rw [if_pos ⟨by omega, h2⟩] at *
      omega
    have B := bit_any n
    rw [e]
    clear e
    generalize bitZ n = b at B ⊢
    go_enter Try.func83, Try.ntmps83
    go_wp2_with fail
    refine (B _).mono ?_
    rintro e w1 ⟨rfl, rfl⟩
    go_wp2_with fail
    go_ret
    exact ⟨rfl, rfl⟩
end Go.Proofs.Ytgmblgpfgdfnaaa
