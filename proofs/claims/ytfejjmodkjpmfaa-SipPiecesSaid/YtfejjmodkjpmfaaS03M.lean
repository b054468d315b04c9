/- The arithmetic of the keyed tag, over natural numbers. -/
import Derived.Test.YtfejjmodkjpmfaaOwn
import Derived.Laws.BitsAllLaws
import Derived.Laws.Bits64
namespace Go.Proofs.Ytfejjmodkjpmfaa
set_option linter.unusedVariables false
set_option linter.unusedSimpArgs false
/-- x turned to the left by k. -/
def rotN (x k : Nat) : Nat := (x % 2 ^ (64 - k)) * 2 ^ k + x / 2 ^ (64 - k)
def turnN (x : Nat) : Nat → Nat
  | 0 => x
  | i + 1 => (2 * turnN x i + turnN x i / 9223372036854775808) % 18446744073709551616
theorem turn_step (x h P : Nat) (hP : h * P = 9223372036854775808) (hx : x < 18446744073709551616) :
    (2 * ((x % (2 * h)) * P + x / (2 * h)) + ((x % (2 * h)) * P + x / (2 * h)) / 9223372036854775808) % 18446744073709551616 = (x % h) * (2 * P) + x / h := by
  have hpos : 0 < h := by rcases Nat.eq_zero_or_pos h with e | e; · rw [e] at hP; omega
                          · exact e
  have e1 : x % (2 * h) = x % h + h * (x / h % 2) := by rw [Nat.mul_comm 2 h, Nat.mod_mul]
  have e2 : x / (2 * h) = x / h / 2 := by rw [Nat.mul_comm 2 h, Nat.div_div_eq_div_mul]
  have e3 : x / h / 2 < P := by
    rw [Nat.div_div_eq_div_mul]
    apply Nat.div_lt_of_lt_mul
    have : h * 2 * P = 18446744073709551616 := by rw [Nat.mul_right_comm, hP]
    omega
  have e4 : (x % h) * P + P ≤ 9223372036854775808 := by
    rw [← hP, ← Nat.succ_mul]
    exact Nat.mul_le_mul_right _ (Nat.mod_lt _ hpos)
  rw [e1, e2, Nat.add_mul, Nat.mul_right_comm h, hP, show x % h * (2 * P) = 2 * (x % h * P) from by rw [Nat.mul_left_comm]]
  have e5 : x / h = 2 * (x / h / 2) + x / h % 2 := by omega
  generalize x % h * P = A at e4 ⊢
  have e6 : x / h % 2 = 0 ∨ x / h % 2 = 1 := by omega
  generalize x / h % 2 = t at e5 e6 ⊢
  generalize x / h / 2 = u at e3 e5 ⊢
  rw [e5]
  clear e5 e1 e2
  have hs : A + u < 9223372036854775808 := by omega
  rcases e6 with rfl | rfl
  · rw [show A + 9223372036854775808 * 0 + u = A + u from by omega, Nat.div_eq_of_lt hs]
    omega
  · rw [show A + 9223372036854775808 * 1 + u = (A + u) + 9223372036854775808 from by omega, Nat.add_div_right _ (by decide), Nat.div_eq_of_lt hs]
    omega
theorem turn_rot (x : Nat) (hx : x < 18446744073709551616) : ∀ k : Nat, k ≤ 63 → turnN x k = rotN x k
  | 0, _ => by
    unfold turnN rotN
    omega
  | k + 1, hk => by
    have e1 : 2 ^ (64 - k) = 2 * 2 ^ (64 - (k + 1)) := by rw [show 64 - k = (64 - (k + 1)) + 1 from by omega, Nat.pow_succ]; omega
    have e2 : 2 ^ (64 - (k + 1)) * 2 ^ k = 9223372036854775808 := by rw [← Nat.pow_add, show 64 - (k + 1) + k = 63 from by omega]
    rw [turnN, turn_rot x hx k (by omega)]
    unfold rotN
    rw [e1, turn_step x _ _ e2 hx, Nat.pow_succ 2 k, Nat.mul_comm (2 ^ k) 2]
theorem rot_lt (x k : Nat) (hx : x < 18446744073709551616) (hk : k ≤ 63) : rotN x k < 18446744073709551616 := by
  rw [← turn_rot x hx k hk]
  cases k with
  | zero => exact hx
  | succ k => unfold turnN; omega
theorem rot_or (x k : Nat) (hx : x < 18446744073709551616) (hk : k ≤ 63) : (x * 2 ^ k % 18446744073709551616) ||| (x / 2 ^ (64 - k)) = rotN x k := by
  have e : 18446744073709551616 = 2 ^ (64 - k) * 2 ^ k := by rw [← Nat.pow_add, show 64 - k + k = 64 from by omega]
  have hlt : x / 2 ^ (64 - k) < 2 ^ k := by
    apply Nat.div_lt_of_lt_mul
    rw [← e]; exact hx
  unfold rotN
  rw [e, Nat.mul_mod_mul_right, Nat.mul_comm (x % 2 ^ (64 - k)), ← Nat.two_pow_add_eq_or_of_lt hlt]
def addN (a b : Nat) : Nat := (a + b) % 18446744073709551616
theorem add_lt (a b : Nat) : addN a b < 18446744073709551616 := by unfold addN; omega
theorem add_is (a b : Nat) : IntKind.u64.wrap ((a : Int) + (b : Int)) = (addN a b : Int) := by rw [IntKind.wrap_u64]; unfold addN; omega
def xorN (a b : Nat) : Nat := a ^^^ b
theorem xor_lt {a b : Nat} (ha : a < 18446744073709551616) (hb : b < 18446744073709551616) : xorN a b < 18446744073709551616 := by
  have := Nat.xor_lt_two_pow (n := 64) (by simpa using ha) (by simpa using hb)
  simpa [xorN] using this
theorem xor_is {a b : Nat} (ha : a < 18446744073709551616) (hb : b < 18446744073709551616) : bits .xor .u64 (a : Int) (b : Int) = (xorN a b : Int) := u64_xor_nat a b ha hb
/-- Four words. -/
structure St where
  a : Nat
  b : Nat
  c : Nat
  d : Nat
structure St.Ok (s : St) : Prop where
  a : s.a < 18446744073709551616
  b : s.b < 18446744073709551616
  c : s.c < 18446744073709551616
  d : s.d < 18446744073709551616
def roundN (s : St) : St :=
  let a1 := addN s.a s.b
  let b1 := xorN (rotN s.b 13) a1
  let a2 := rotN a1 32
  let c1 := addN s.c s.d
  let d1 := xorN (rotN s.d 16) c1
  let a3 := addN a2 d1
  let d2 := xorN (rotN d1 21) a3
  let c2 := addN c1 b1
  let b2 := xorN (rotN b1 17) c2
  ⟨a3, b2, rotN c2 32, d2⟩
theorem round_ok (s : St) (h : s.Ok) : (roundN s).Ok := by
  have h1 := rot_lt s.b 13 h.b (by decide)
  have h2 := rot_lt s.d 16 h.d (by decide)
  have b1 := xor_lt h1 (add_lt s.a s.b)
  have d1 := xor_lt h2 (add_lt s.c s.d)
  exact ⟨add_lt _ _, xor_lt (rot_lt _ 17 b1 (by decide)) (add_lt _ _), rot_lt _ 32 (add_lt _ _) (by decide), xor_lt (rot_lt _ 21 d1 (by decide)) (add_lt _ _)⟩
def roundsN : Nat → St → St
  | 0, s => s
  | n + 1, s => roundN (roundsN n s)
theorem rounds_ok (s : St) (h : s.Ok) : ∀ n, (roundsN n s).Ok
  | 0 => h
  | n + 1 => round_ok _ (rounds_ok s h n)
def takeN (s : St) (m : Nat) : St := let t := roundsN 2 { s with d := xorN s.d m }; { t with a := xorN t.a m }
theorem ok_setA (t : St) (h : t.Ok) (x : Nat) (hx : x < 18446744073709551616) : ({ t with a := x } : St).Ok := ⟨hx, h.b, h.c, h.d⟩
theorem ok_setC (t : St) (h : t.Ok) (x : Nat) (hx : x < 18446744073709551616) : ({ t with c := x } : St).Ok := ⟨h.a, h.b, hx, h.d⟩
theorem ok_setD (t : St) (h : t.Ok) (x : Nat) (hx : x < 18446744073709551616) : ({ t with d := x } : St).Ok := ⟨h.a, h.b, h.c, hx⟩
theorem take_ok (s : St) (h : s.Ok) (m : Nat) (hm : m < 18446744073709551616) : (takeN s m).Ok := by
  have t := rounds_ok _ (ok_setD s h (xorN s.d m) (xor_lt h.d hm)) 2
  unfold takeN
  generalize roundsN 2 { s with d := xorN s.d m } = u at t ⊢
  exact ok_setA u t _ (xor_lt t.a hm)
def stV (s : St) : Value := .agg #[.int .u64 (s.a : Int), .int .u64 (s.b : Int), .int .u64 (s.c : Int), .int .u64 (s.d : Int)]
end Go.Proofs.Ytfejjmodkjpmfaa
