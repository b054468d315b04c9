/- Plain arithmetic of layer 1: the document's bytes of a number, as a function of numbers; no Go here. -/
import Derived.Test.YtoagdmglchccnaaGreatDoorQRR1
import Derived.Laws.BitsAllLaws
import Derived.Laws.DeepNot64
namespace Go.Proofs.YtoagdmglchccnaaGreatDoor
open Go.RowKit
set_option linter.unusedVariables false
set_option linter.unusedSimpArgs false
/-- A number of 64 bits without a sign. -/
def U64 (v : Int) : Prop := 0 ≤ v ∧ v < 18446744073709551616
/-- The bytes of v, at most n + 1 of them. -/
def putF : Nat → Nat → List UInt8
  | 0, v => [UInt8.ofNat v]
  | n + 1, v => if v < 128 then [UInt8.ofNat v] else UInt8.ofNat (v % 128 + 128) :: putF n (v / 128)
def putL (v : Nat) : List UInt8 := putF 9 v
theorem putF_len (n v : Nat) : 1 ≤ (putF n v).length ∧ (putF n v).length ≤ n + 1 := by
  induction n generalizing v with
  | zero => simp [putF]
  | succ n ih =>
    unfold putF
    split
    · simp
    · have := ih (v / 128); simp; omega
theorem putL_len (v : Nat) : 1 ≤ (putL v).length ∧ (putL v).length ≤ 10 := putF_len 9 v
/-- One byte more. -/
theorem put_step {pre : List UInt8} {y n : Nat} (hy : Hid (y * 128 ^ pre.length < 18446744073709551616)) (hp : pre.length ≤ 9) (h : Hid (pre ++ putF (9 - pre.length) y = putL n)) (h128 : 128 ≤ y) :
    pre.length + 1 ≤ 9 ∧ Hid (y / 128 * 128 ^ (pre ++ [UInt8.ofNat (y % 128 + 128)]).length < 18446744073709551616) ∧ Hid ((pre ++ [UInt8.ofNat (y % 128 + 128)]) ++ putF (9 - (pre ++ [UInt8.ofNat (y % 128 + 128)]).length) (y / 128) = putL n) := by
  have hy' := hy.out
  have hp9 : pre.length + 1 ≤ 9 := by
    apply Decidable.byContradiction
    intro hc
    have : pre.length = 9 := by omega
    rw [this] at hy'
    omega
  refine ⟨hp9, ?_, ?_⟩
  · show _ < _
    rw [List.length_append, List.length_singleton, Nat.pow_succ, Nat.mul_comm (128 ^ pre.length), ← Nat.mul_assoc]
    exact Nat.lt_of_le_of_lt (Nat.mul_le_mul_right _ (Nat.div_mul_le_self y 128)) hy'
  · show _ = _
    rw [← h.out, List.append_assoc, List.length_append, List.length_singleton]
    congr 1
    have e : 9 - pre.length = (9 - (pre.length + 1)) + 1 := by omega
    rw [e]
    show _ = putF (9 - (pre.length + 1) + 1) y
    conv => rhs; unfold putF
    rw [if_neg (by omega)]
    rfl
theorem put_last {pre : List UInt8} {y n : Nat} (h : Hid (pre ++ putF (9 - pre.length) y = putL n)) (h128 : y < 128) : pre ++ [UInt8.ofNat y] = putL n := by
  rw [← h.out]
  congr 1
  cases hq : 9 - pre.length with
  | zero => rfl
  | succ k => unfold putF; rw [if_pos h128]
theorem or128 : ∀ n : Nat, n < 256 → bits .or .u8 (n : Int) 128 = ((n % 128 + 128 : Nat) : Int) := by decide +kernel
/-- 'byte(v) | 128' of a number v. -/
theorem byte_more (y : Nat) : Value.int .u8 (bits .or .u8 ((y : Int) % 256) 128) = bv (UInt8.ofNat (y % 128 + 128)) := by
  have e : ((y : Int) % 256) = ((y % 256 : Nat) : Int) := by omega
  rw [e, or128 _ (Nat.mod_lt _ (by decide))]
  have : (UInt8.ofNat (y % 128 + 128)).toNat = y % 128 + 128 := by rw [UInt8.toNat_ofNat']; omega
  rw [bv, this]
  congr 1; omega
theorem byte_last (y : Nat) (h : y < 128) : Value.int .u8 (y : Int) = bv (UInt8.ofNat y) := by
  have : (UInt8.ofNat y).toNat = y := by rw [UInt8.toNat_ofNat']; omega
  rw [bv, this]
theorem pow128 (k : Nat) : (128 : Nat) ^ k = 2 ^ (7 * k) := by rw [Nat.pow_mul]
/-- Seven bits more. -/
theorem or_shift (a c k : Nat) (hk : k ≤ 9) (ha : a < 128 ^ k) (hc : c * 128 ^ k < 18446744073709551616) : bits .or .u64 (a : Int) (IntKind.u64.wrap ((c : Int) * 2 ^ (7 * k))) = ((a + c * 128 ^ k : Nat) : Int) := by
  have h1 : ((c : Int) * 2 ^ (7 * k)) = ((c * 128 ^ k : Nat) : Int) := by rw [pow128]; push_cast; rfl
  have h2 : a < 18446744073709551616 := Nat.lt_of_lt_of_le ha (Nat.le_trans (Nat.pow_le_pow_right (by decide) hk) (by decide : 128 ^ 9 ≤ 18446744073709551616))
  have h3 : ((c * 128 ^ k : Nat) : Int) % 18446744073709551616 = ((c * 128 ^ k : Nat) : Int) := by omega
  rw [h1, IntKind.wrap_u64, h3]
  rw [u64_or_nat _ _ h2 hc, Nat.or_comm]
  congr 1
  rw [pow128] at ha ⊢
  rw [Nat.mul_comm c, ← Nat.two_pow_add_eq_or_of_lt ha, Nat.add_comm]
/-- What a number is read as: the number, how many bytes, the error. k bytes have been read, they say a. -/
def cutGo : Nat → Nat → List UInt8 → Nat × Nat × Nat
  | _, _, [] => (0, 0, 2)
  | k, a, b :: r => if k = 9 ∧ 1 < b.toNat then (0, 0, 8) else if b.toNat < 128 then (if b.toNat = 0 ∧ 0 < k then (0, 0, 3) else (a + b.toNat * 128 ^ k, k + 1, 0)) else cutGo (k + 1) (a + (b.toNat - 128) * 128 ^ k) r
def cutL (l : List UInt8) : Nat × Nat × Nat := cutGo 0 0 l
theorem drop_cons (l : List UInt8) (k : Nat) (h : k < l.length) : l.drop k = l.getD k 0 :: l.drop (k + 1) := by
  rw [List.drop_eq_getElem_cons h]
  congr 1
  simp [List.getD, h]
theorem cut_end {l : List UInt8} {k a : Nat} (h : Hid (cutGo k a (l.drop k) = cutL l)) (hk : k = l.length) : cutL l = (0, 0, 2) := by
  rw [← h.out, List.drop_eq_nil_of_le (by omega)]
  rfl
theorem cut_over {l : List UInt8} {k a c : Nat} (h : Hid (cutGo k a (l.drop k) = cutL l)) (hk : k < l.length) (hc : Hid ((l.getD k 0).toNat = c)) (h9 : k = 9) (h1 : 1 < c) : cutL l = (0, 0, 8) := by
  rw [← h.out, drop_cons l k hk, cutGo, if_pos ⟨h9, by rw [hc.out]; exact h1⟩]
theorem cut_form {l : List UInt8} {k a c : Nat} (h : Hid (cutGo k a (l.drop k) = cutL l)) (hk : k < l.length) (hc : Hid ((l.getD k 0).toNat = c)) (h9 : ¬ (k = 9 ∧ 1 < c)) (h0 : c = 0) (hk0 : 0 < k) : cutL l = (0, 0, 3) := by
  rw [← h.out, drop_cons l k hk, cutGo, if_neg (by rw [hc.out]; exact h9), if_pos (by rw [hc.out]; omega), if_pos ⟨by rw [hc.out]; exact h0, hk0⟩]
theorem cut_ok {l : List UInt8} {k a c : Nat} (h : Hid (cutGo k a (l.drop k) = cutL l)) (hk : k < l.length) (hc : Hid ((l.getD k 0).toNat = c)) (h9 : ¬ (k = 9 ∧ 1 < c)) (h128 : c < 128) (h0 : ¬ (c = 0 ∧ 0 < k)) : cutL l = (a + c * 128 ^ k, k + 1, 0) := by
  rw [← h.out, drop_cons l k hk, cutGo, if_neg (by rw [hc.out]; exact h9), if_pos (by rw [hc.out]; omega), if_neg (by rw [hc.out]; exact h0), hc.out]
theorem cut_more {l : List UInt8} {k a c : Nat} (h : Hid (cutGo k a (l.drop k) = cutL l)) (ha : Hid (a < 128 ^ k)) (hk : k < l.length) (hc : Hid ((l.getD k 0).toNat = c)) (h9 : ¬ (k = 9 ∧ 1 < c)) (h128 : 128 ≤ c) :
    Hid (cutGo (k + 1) (a + (c - 128) * 128 ^ k) (l.drop (k + 1)) = cutL l) ∧ Hid (a + (c - 128) * 128 ^ k < 128 ^ (k + 1)) := by
  constructor
  · show _ = _
    rw [← h.out, drop_cons l k hk, cutGo, if_neg (by rw [hc.out]; exact h9), if_neg (by rw [hc.out]; omega), hc.out]
  · show _ < _
    have h1 : c - 128 ≤ 127 := by have := (l.getD k 0).toNat_lt; rw [hc.out] at this; omega
    have h2 : (c - 128) * 128 ^ k ≤ 127 * 128 ^ k := Nat.mul_le_mul_right _ h1
    have := ha.out
    rw [Nat.pow_succ]; omega
theorem shift_fits {c k : Nat} (hk : k ≤ 9) (hc : c < 128) (h9 : k = 9 → c ≤ 1) : c * 128 ^ k < 18446744073709551616 := by
  rcases Nat.lt_or_ge k 9 with h | h
  · have h1 : (128 : Nat) ^ k ≤ 128 ^ 8 := Nat.pow_le_pow_right (by decide) (by omega)
    exact Nat.lt_of_le_of_lt (Nat.mul_le_mul (Nat.le_of_lt hc) h1) (by decide)
  · obtain rfl : k = 9 := by omega
    exact Nat.lt_of_le_of_lt (Nat.mul_le_mul (h9 rfl) (Nat.le_refl _)) (by decide)
/-- A signed number as one without a sign. -/
def zigN (v : Int) : Nat := if 0 ≤ v then 2 * v.toNat else 2 * (-(v + 1)).toNat + 1
def unzig (x : Nat) : Int := if x % 2 = 0 then ((x / 2 : Nat) : Int) else -1 - ((x / 2 : Nat) : Int)
def I64 (v : Int) : Prop := -9223372036854775808 ≤ v ∧ v ≤ 9223372036854775807
theorem zigN_u64 {v : Int} (h : I64 v) : U64 (zigN v) := by
  obtain ⟨h1, h2⟩ := h
  unfold zigN U64
  split <;> omega
theorem xor_ones (a : Nat) (ha : a < 18446744073709551616) : bits .xor .u64 (a : Int) 18446744073709551615 = 18446744073709551615 - (a : Int) := by
  have h := bits_xor_u64_nat a 18446744073709551615 ha (by decide)
  have e : a ^^^ 18446744073709551615 = 18446744073709551615 - a := by
    have h1 : (BitVec.ofNat 64 a ^^^ BitVec.allOnes 64).toNat = (~~~ BitVec.ofNat 64 a).toNat := by rw [BitVec.xor_allOnes]
    rw [BitVec.toNat_xor, BitVec.toNat_not, BitVec.toNat_ofNat, BitVec.toNat_allOnes, Nat.mod_eq_of_lt (by simpa using ha)] at h1
    simpa using h1
  rw [show (18446744073709551615 : Int) = ((18446744073709551615 : Nat) : Int) from rfl, h, e]
  omega
theorem xor_none (a : Nat) (ha : a < 18446744073709551616) : bits .xor .u64 (a : Int) 0 = (a : Int) := by
  have h := bits_xor_u64_nat a 0 ha (by decide)
  simpa using h
theorem zig_bits {v : Int} (h : I64 v) : bits .xor .u64 (IntKind.u64.wrap (IntKind.u64.wrap v * 2)) (IntKind.u64.wrap (v / 9223372036854775808)) = (zigN v : Int) := by
  obtain ⟨h1, h2⟩ := h
  rw [IntKind.wrap_u64, IntKind.wrap_u64, IntKind.wrap_u64]
  unfold zigN
  by_cases h0 : 0 ≤ v
  · rw [if_pos h0, show v / 9223372036854775808 % 18446744073709551616 = 0 from by omega, show v % 18446744073709551616 * 2 % 18446744073709551616 = ((2 * v.toNat : Nat) : Int) from by omega]
    exact xor_none _ (by omega)
  · rw [if_neg h0, show v / 9223372036854775808 % 18446744073709551616 = 18446744073709551615 from by omega, show v % 18446744073709551616 * 2 % 18446744073709551616 = ((18446744073709551615 - (2 * (-(v + 1)).toNat + 1) : Nat) : Int) from by omega]
    rw [xor_ones _ (by omega)]
    omega
theorem unzig_bits {x : Nat} (h : x < 18446744073709551616) (a b : Int) (ha : a = ((x / 2 : Nat) : Int)) (hb : b = - ((x % 2 : Nat) : Int)) : bits .xor .i64 a b = unzig x := by
  subst ha; subst hb
  unfold unzig
  have hx : x / 2 < 9223372036854775808 := by omega
  by_cases h2 : x % 2 = 0
  · rw [if_pos h2, h2]
    show IntKind.i64.wrap ((BitVec.ofInt 64 ((x / 2 : Nat) : Int) ^^^ BitVec.ofInt 64 (-((0 : Nat) : Int))).toNat : Int) = _
    rw [show BitVec.ofInt 64 (-((0 : Nat) : Int)) = 0#64 from rfl, BitVec.xor_zero, ofInt_u64 _ (by omega), IntKind.wrap_i64]
    omega
  · rw [if_neg h2, show x % 2 = 1 from by omega]
    have e := i64_not (x / 2) hx
    rw [← e]
    show IntKind.i64.wrap ((BitVec.ofInt 64 ((x / 2 : Nat) : Int) ^^^ BitVec.ofInt 64 (-1)).toNat : Int) = IntKind.i64.wrap ((BitVec.ofInt 64 (-1) ^^^ BitVec.ofInt 64 ((x / 2 : Nat) : Int)).toNat : Int)
    rw [BitVec.xor_comm]
/-- What a cut says: how far, and that an error comes with nothing. -/
theorem cutGo_facts (l : List UInt8) : ∀ (k a x n c : Nat), k ≤ 9 → a < 128 ^ k → cutGo k a l = (x, n, c) →
    x < 18446744073709551616 ∧ n ≤ k + l.length ∧ n ≤ 10 ∧ (c ≠ 0 → x = 0 ∧ n = 0) ∧ (c = 0 → k < n) ∧ (c = 0 ∨ c = 2 ∨ c = 3 ∨ c = 8) := by
  induction l with
  | nil => intro k a x n c _ _ h; simp [cutGo] at h; obtain ⟨rfl, rfl, rfl⟩ := h; omega
  | cons b r ih =>
    intro k a x n c hk ha h
    unfold cutGo at h
    split at h
    · simp at h; obtain ⟨rfl, rfl, rfl⟩ := h; omega
    · rename_i h9
      split at h
      · rename_i h128
        split at h
        · simp at h; obtain ⟨rfl, rfl, rfl⟩ := h; omega
        · simp at h
          obtain ⟨rfl, rfl, rfl⟩ := h
          have hf : b.toNat * 128 ^ k < 18446744073709551616 := shift_fits hk h128 (by omega)
          refine ⟨?_, by simp, by omega, by omega, by omega, by omega⟩
          rw [pow128] at ha hf ⊢
          rcases Nat.lt_or_ge k 9 with hk9 | hk9
          · have h1 : (2 : Nat) ^ (7 * k) ≤ 2 ^ 56 := Nat.pow_le_pow_right (by decide) (by omega)
            have h2 : b.toNat * 2 ^ (7 * k) ≤ 127 * 2 ^ 56 := Nat.mul_le_mul (by omega) h1
            omega
          · obtain rfl : k = 9 := by omega
            have h2 : b.toNat * 2 ^ (7 * 9) ≤ 1 * 2 ^ 63 := Nat.mul_le_mul (by omega) (Nat.le_refl _)
            omega
      · rename_i h128
        have hb := b.toNat_lt
        rcases Nat.lt_or_ge k 9 with hk9 | hk9
        · have ha' : a + (b.toNat - 128) * 128 ^ k < 128 ^ (k + 1) := by
            have h2 : (b.toNat - 128) * 128 ^ k ≤ 127 * 128 ^ k := Nat.mul_le_mul_right _ (by omega)
            rw [Nat.pow_succ]; omega
          have := ih (k + 1) _ x n c (by omega) ha' h
          obtain ⟨i1, i2, i3, i4, i5, i6⟩ := this
          exact ⟨i1, by simp; omega, i3, i4, by omega, i6⟩
        · exfalso; apply h9; exact ⟨by omega, by omega⟩
theorem cutL_facts {l : List UInt8} {x n c : Nat} (h : cutL l = (x, n, c)) :
    x < 18446744073709551616 ∧ n ≤ l.length ∧ n ≤ 10 ∧ (c ≠ 0 → x = 0 ∧ n = 0) ∧ (c = 0 → 0 < n) ∧ (c = 0 ∨ c = 2 ∨ c = 3 ∨ c = 8) := by
  have := cutGo_facts l 0 0 x n c (by omega) (by simp) h
  simpa using this
/-- The number that bytes say, the first one the least. -/
def val : List UInt8 → Nat
  | [] => 0
  | b :: r => b.toNat % 128 + 128 * val r
theorem val_snoc (l : List UInt8) (b : UInt8) : val (l ++ [b]) = val l + b.toNat % 128 * 128 ^ l.length := by
  induction l with
  | nil => simp [val]
  | cons c r ih =>
    simp only [List.cons_append, val, ih, List.length_cons, Nat.pow_succ, Nat.mul_add]
    rw [Nat.mul_comm (128 ^ r.length) 128, ← Nat.mul_assoc, ← Nat.mul_assoc, Nat.mul_comm 128 (b.toNat % 128), Nat.add_assoc]
theorem take_snoc (l : List UInt8) (k : Nat) (h : k < l.length) : l.take (k + 1) = l.take k ++ [l.getD k 0] := by
  rw [List.take_succ_eq_append_getElem h]
  simp [List.getD, h]
theorem val_take (l : List UInt8) (k : Nat) (h : k < l.length) : val (l.take (k + 1)) = val (l.take k) + (l.getD k 0).toNat % 128 * 128 ^ k := by
  rw [take_snoc l k h, val_snoc, List.length_take, Nat.min_eq_left (by omega)]
theorem val_lt (l : List UInt8) : val l < 128 ^ l.length := by
  induction l with
  | nil => simp [val]
  | cons b r ih =>
    simp only [val, List.length_cons, Nat.pow_succ]
    have := Nat.mod_lt b.toNat (show 0 < 128 by decide)
    omega
theorem val_drop_le (l : List UInt8) (m : Nat) : val (l.drop m) ≤ val l := by
  induction m generalizing l with
  | zero => simp
  | succ m ih =>
    cases l with
    | nil => simp
    | cons b r => simp only [List.drop_succ_cons, val]; have := ih r; omega
theorem val_drop (l : List UInt8) (m : Nat) (h : m < l.length) : val (l.drop m) = val (l.drop (m + 1)) * 128 + (l.getD m 0).toNat % 128 := by
  rw [drop_cons l m h, val]; omega
theorem cut_more' {l : List UInt8} {k c : Nat} (h : Hid (cutGo k (val (l.take k)) (l.drop k) = cutL l)) (hk : k < l.length) (hc : Hid ((l.getD k 0).toNat = c)) (h9 : k < 9) (h128 : 128 ≤ c) :
    Hid (cutGo (k + 1) (val (l.take (k + 1))) (l.drop (k + 1)) = cutL l) := by
  have ha : Hid (val (l.take k) < 128 ^ k) := by have := val_lt (l.take k); rw [List.length_take, Nat.min_eq_left (by omega)] at this; exact this
  have h1 := (cut_more h ha hk hc (by omega) h128).1
  rw [val_take l k hk, hc.out]
  have hb := (l.getD k 0).toNat_lt
  rw [hc.out] at hb
  rw [show c % 128 = c - 128 from by omega]
  exact h1
theorem cut_ok' {l : List UInt8} {k c : Nat} (h : Hid (cutGo k (val (l.take k)) (l.drop k) = cutL l)) (hk : k < l.length) (hc : Hid ((l.getD k 0).toNat = c)) (h9 : ¬ (k = 9 ∧ 1 < c)) (h128 : c < 128) (h0 : ¬ (c = 0 ∧ 0 < k)) :
    cutL l = (val (l.take (k + 1)), k + 1, 0) := by
  rw [cut_ok h hk hc h9 h128 h0, val_take l k hk, hc.out, Nat.mod_eq_of_lt h128]
theorem val_step (l : List UInt8) (n q : Nat) (hq : q < n) (hn : n ≤ l.length) (hx : val (l.take n) < 18446744073709551616) :
    IntKind.u64.wrap (IntKind.u64.wrap ((val ((l.take n).drop (q + 1)) : Int) * 128) + ((l.getD q 0).toNat : Int) % 128) = ((val ((l.take n).drop q) : Nat) : Int) := by
  have h1 := val_drop (l.take n) q (by rw [List.length_take]; omega)
  have h2 := val_drop_le (l.take n) q
  have h3 : (l.take n).getD q 0 = l.getD q 0 := by simp [List.getD, List.getElem?_take, hq]
  rw [h3] at h1
  rw [IntKind.wrap_u64, IntKind.wrap_u64]
  omega
end Go.Proofs.YtoagdmglchccnaaGreatDoor
