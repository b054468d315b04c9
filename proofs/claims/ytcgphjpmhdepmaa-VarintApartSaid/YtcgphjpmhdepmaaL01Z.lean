/- Size of package varint. -/
import Derived.Test.YtcgphjpmhdepmaaL01A
import Derived.Test.YtcgphjpmhdepmaaShelf
namespace Go.Proofs.Ytcgphjpmhdepmaa
open Go.RowKit
set_option linter.unusedVariables false
set_option linter.unusedSimpArgs false
theorem lib_bitLen (f x : Nat) (h : x < 2 ^ f) : Lib.bitLenAux f x = bitLen x := by
  induction f generalizing x with
  | zero => obtain rfl : x = 0 := by simpa using h
            rfl
  | succ f ih =>
    unfold Lib.bitLenAux
    split
    · rename_i h0; subst h0; rfl
    · rename_i h0
      rw [ih (x / 2) (by rw [Nat.pow_succ] at h; omega)]
      by_cases h1 : x / 2 = 0
      · obtain rfl : x = 1 := by omega
        decide
      · have := bitLen_shift x 1 (by simpa using h1)
        rw [this, Nat.pow_one]
set_option maxRecDepth 100000 in
theorem size_any (v : Nat) (hu : U64 v) (w : World) :
    Calls Try.prog 15 #[.int .u64 v] w fun e w' => e = .returned (.int .i64 (putL v).length) ∧ w = w' := by
  have h1 : v < 18446744073709551616 := by have := hu.2; omega
  have e := u64_or_nat v 1 h1 (by decide)
  have hor : v ||| 1 < 18446744073709551616 := Nat.or_lt_two_pow (n := 64) (by omega) (by decide)
  have hb : bitLen (v ||| 1) ≤ 64 := bitLen_le (by omega)
  have hz := putL_size h1
  have E := Lib.hid e
  have Z := Lib.hid hz
  have HO := Lib.hid hor
  clear e hz hu h1 hor
  go_enter Try.func15, Try.ntmps15
  go_wp2_with fail
  rw [show (bits BinOp.or IntKind.u64 (v : Int) 1) = ((v ||| 1 : Nat) : Int) from E.out]
  refine (Try.bits_Len64 _ _ (by omega) (by have := HO.out; omega)).mono ?_
  rintro e w' ⟨rfl, rfl⟩
  rw [Int.toNat_natCast, show Lib.bitLen (v ||| 1) = bitLen (v ||| 1) from lib_bitLen 64 _ HO.out]
  go_wp2
  go_ret
  refine ⟨?_, rfl⟩
  rw [Z.out]
  simp
  omega
end Go.Proofs.Ytcgphjpmhdepmaa
