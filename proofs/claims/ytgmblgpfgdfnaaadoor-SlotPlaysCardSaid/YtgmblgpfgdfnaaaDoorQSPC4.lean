/- Sets of numbers: the lowest one; what is in a set. Plain mathematics. -/
/- Quorums: the lowest bit; enough; who leads. -/
import Derived.Test.YtgmblgpfgdfnaaaDoorQSPC3
namespace Go.Proofs.YtgmblgpfgdfnaaaDoor
set_option linter.unusedVariables false
set_option linter.unusedSimpArgs false
theorem odd_part : ∀ (n x : Nat), x ≤ n → 0 < x → ∃ k m, x = 2 ^ (k + 1) * m + 2 ^ k
  | 0, x, h, h0 => by omega
  | n + 1, x, h, h0 => by
    by_cases h1 : x % 2 = 1
    · exact ⟨0, x / 2, by simp; omega⟩
    · obtain ⟨k, m, e⟩ := odd_part n (x / 2) (by omega) (by omega)
      refine ⟨k + 1, m, ?_⟩
      rw [Nat.pow_succ 2 (k + 1), Nat.mul_comm (2 ^ (k + 1)) 2, Nat.mul_assoc, Nat.pow_succ 2 k, Nat.mul_comm (2 ^ k) 2]
      rw [Nat.pow_succ, Nat.mul_comm (2 ^ k) 2] at e
      omega
theorem pow_half (k : Nat) : 2 ^ k < 2 ^ (k + 1) := Nat.pow_lt_pow_right (by decide) (by omega)
theorem low_bit (k m : Nat) (hk : k < 64) (h : 2 ^ (k + 1) * m + 2 ^ k < 18446744073709551616) :
    (2 ^ (k + 1) * m + 2 ^ k) &&& (18446744073709551616 - (2 ^ (k + 1) * m + 2 ^ k)) = 2 ^ k := by
  have e64 : 18446744073709551616 = 2 ^ (k + 1) * 2 ^ (63 - k) := by rw [← Nat.pow_add, show k + 1 + (63 - k) = 64 from by omega]
  have hm : m < 2 ^ (63 - k) := by
    have : 2 ^ (k + 1) * m < 2 ^ (k + 1) * 2 ^ (63 - k) := by rw [← e64]; exact Nat.lt_of_le_of_lt (Nat.le_add_right _ _) h
    exact Nat.lt_of_mul_lt_mul_left this
  have hs : 18446744073709551616 - (2 ^ (k + 1) * m + 2 ^ k) = 2 ^ (k + 1) * (2 ^ (63 - k) - (m + 1)) + 2 ^ k := by
    have e1 : 2 ^ (k + 1) * (2 ^ (63 - k) - (m + 1)) = 18446744073709551616 - (2 ^ (k + 1) * m + 2 ^ (k + 1)) := by
      rw [Nat.mul_sub, ← e64, Nat.mul_add, Nat.mul_one]
    have e2 : 2 ^ (k + 1) * (m + 1) ≤ 18446744073709551616 := by rw [e64]; exact Nat.mul_le_mul_left _ hm
    rw [Nat.mul_add, Nat.mul_one] at e2
    have e3 : 2 ^ (k + 1) = 2 ^ k + 2 ^ k := by rw [Nat.pow_succ]; omega
    omega
  rw [hs, and_cut (k + 1) _ _ _ _ (pow_half k) (pow_half k), Nat.and_self]
  have hz : m &&& (2 ^ (63 - k) - (m + 1)) = 0 := by
    apply Nat.eq_of_testBit_eq
    intro i
    rw [Nat.testBit_and, Nat.testBit_two_pow_sub_succ hm]
    cases m.testBit i <;> simp
  rw [hz]; simp
theorem drop_low (k m : Nat) : (2 ^ (k + 1) * m + 2 ^ k) &&& (2 ^ (k + 1) * m + 2 ^ k - 1) = 2 ^ (k + 1) * m := by
  have hp : 0 < 2 ^ k := Nat.two_pow_pos k
  have h1 := pow_half k
  rw [Nat.add_sub_assoc hp, and_cut (k + 1) _ _ _ _ h1 (by omega), Nat.and_self, Nat.and_two_pow_sub_one_eq_mod, Nat.mod_self, Nat.add_zero]
theorem filter_split (s k : Nat) (hk : k < 64) : listN s = (List.range k).filter (fun i => s.testBit i) ++ ((if s.testBit k then [k] else []) ++ ((List.range (63 - k)).map (fun j => k + 1 + j)).filter fun i => s.testBit i) := by
  unfold listN
  rw [show 64 = k + 1 + (63 - k) from by omega, List.range_add, List.range_succ, List.filter_append, List.filter_append, List.append_assoc]
  congr 2
  · by_cases h : s.testBit k <;> simp [h]
theorem list_low (k m : Nat) (hk : k < 64) : listN (2 ^ (k + 1) * m + 2 ^ k) = k :: listN (2 ^ (k + 1) * m) := by
  have ta : ∀ j, (2 ^ (k + 1) * m + 2 ^ k).testBit j = if j < k + 1 then (2 ^ k).testBit j else m.testBit (j - (k + 1)) := fun j => Nat.testBit_two_pow_mul_add m (pow_half k) j
  have tb : ∀ j, (2 ^ (k + 1) * m).testBit j = if j < k + 1 then false else m.testBit (j - (k + 1)) := by
    intro j
    have := Nat.testBit_two_pow_mul_add m (i := k + 1) (b := 0) (Nat.two_pow_pos _) j
    simpa using this
  rw [filter_split _ k hk, filter_split (2 ^ (k + 1) * m) k hk]
  have a1 : (List.range k).filter (fun i => (2 ^ (k + 1) * m + 2 ^ k).testBit i) = [] := by
    rw [List.filter_eq_nil_iff]
    intro j hj
    rw [List.mem_range] at hj
    rw [ta, if_pos (by omega), Nat.testBit_two_pow_of_ne (by omega)]
    simp
  have b1 : (List.range k).filter (fun i => (2 ^ (k + 1) * m).testBit i) = [] := by
    rw [List.filter_eq_nil_iff]
    intro j hj
    rw [List.mem_range] at hj
    rw [tb, if_pos (by omega)]
    simp
  have a2 : (2 ^ (k + 1) * m + 2 ^ k).testBit k = true := by rw [ta, if_pos (by omega), Nat.testBit_two_pow_self]
  have b2 : (2 ^ (k + 1) * m).testBit k = false := by rw [tb, if_pos (by omega)]
  have c : ((List.range (63 - k)).map (fun j => k + 1 + j)).filter (fun i => (2 ^ (k + 1) * m + 2 ^ k).testBit i) = ((List.range (63 - k)).map (fun j => k + 1 + j)).filter fun i => (2 ^ (k + 1) * m).testBit i := by
    apply List.filter_congr
    intro j hj
    obtain ⟨i, _, rfl⟩ := List.mem_map.1 hj
    rw [ta, tb, if_neg (by omega), if_neg (by omega)]
  rw [a1, b1, a2, b2, c]
  simp
/-- The table of the library: where a power of two comes to. -/
def tabN : List Nat := [0, 1, 56, 2, 57, 49, 28, 3, 61, 58, 42, 50, 38, 29, 17, 4, 62, 47, 59, 36, 45, 43, 51, 22, 53, 39, 33, 30, 24, 18, 12, 5, 63, 55, 48, 27, 60, 41, 37, 16, 46, 35, 44, 21, 52, 32, 23, 11, 54, 26, 40, 15, 34, 20, 31, 10, 25, 14, 19, 9, 13, 8, 7, 6]
def idxN (k : Nat) : Nat := (2 ^ k * 285870213051353865 % 18446744073709551616) / 288230376151711744
theorem tab_at : ∀ k < 64, idxN k < 64 ∧ tabN.getD (idxN k) 0 = k := by decide +kernel
/-- Is n in s? -/
def hasZ (s : Nat) (n : Int) : Bool := decide (0 ≤ n) && decide (n < 64) && s.testBit n.toNat
theorem list_zero : listN 0 = [] := by decide
theorem has_list (s i : Nat) : decide (i ∈ listN s) = (decide (i < 64) && s.testBit i) := by
  rw [Bool.eq_iff_iff]; simp [mem_list]
end Go.Proofs.YtgmblgpfgdfnaaaDoor
namespace Go.Proofs.YtgmblgpfgdfnaaaDoor
open Go.RowKit
set_option linter.unusedVariables false
set_option linter.unusedSimpArgs false
theorem wpList_run {P : Program} {ops : Array Oper} {rest : List Oper} {o : Oper} {a : Act} {Q : Exit → Act → World → Prop} {w : World} (hgd : o.guard = none) (v : Value) (hr : (execOp a.eval o).run P w = .ok (.value v) w)
    (hK : wpList P ops Q rest (a.put o.dst v) w) : wpList P ops Q (o :: rest) a w := by
  refine wpList_plain hgd fun K hK' => ?_
  unfold Oper.wp
  rw [hr]
  exact hK' _ _ hK
/-- The library's table lies where it was laid. -/
def TabAt (w : World) : Prop := 0 < w.heap.size ∧ ∀ i, i < 64 → w.cell? ⟨0, i, none⟩ = some (.int .u8 (tabN.getD i 0 : Nat))
theorem TabAt.below {w w' : World} {B : Nat} (h : TabAt w) (hb : Below B w w') (hB : 0 < B) : TabAt w' :=
  ⟨Nat.lt_of_lt_of_le h.1 hb.size, fun i hi => (hb.cell (p := ⟨0, i, none⟩) hB).trans (h.2 i hi)⟩
theorem idx_p (p : Nat) : ((p : Int) * 285870213051353865 % 18446744073709551616) / 288230376151711744 = ((p * 285870213051353865 % 18446744073709551616 / 288230376151711744 : Nat) : Int) := by omega
theorem and_p (x y p : Nat) (hx : x < 18446744073709551616) (hy2 : y < 18446744073709551616) (hl : x &&& y = p) : bits .and .u64 (x : Int) (y : Int) = ((p : Nat) : Int) := by
  rw [← hl]; exact u64_and_nat x y hx hy2
theorem idx_q (x y p : Nat) (e1 : IntKind.u64.wrap (-(x : Int)) = (y : Int)) (e2 : bits .and .u64 (x : Int) (y : Int) = ((p : Nat) : Int)) : IntKind.u64.wrap (bits .and .u64 (x : Int) (IntKind.u64.wrap (-(x : Int))) * 285870213051353865) / 288230376151711744 = ((p * 285870213051353865 % 18446744073709551616 / 288230376151711744 : Nat) : Int) := by
  have h := idx_p p
  rw [← IntKind.wrap_u64, ← e2, ← e1] at h
  exact h
theorem idx_k (k x y : Nat) (hx : x < 18446744073709551616) (hy2 : y < 18446744073709551616) (hl : x &&& y = 2 ^ k) (e1 : IntKind.u64.wrap (-(x : Int)) = (y : Int)) : IntKind.u64.wrap (bits .and .u64 (x : Int) (IntKind.u64.wrap (-(x : Int))) * 285870213051353865) / 288230376151711744 = (idxN k : Nat) :=
  idx_q x y (2 ^ k) e1 (and_p x y (2 ^ k) hx hy2 hl)
theorem low_bit_x (k m : Nat) (hk : k < 64) (x : Nat) (ex : x = 2 ^ (k + 1) * m + 2 ^ k) (hx : x < 18446744073709551616) : x &&& (18446744073709551616 - x) = 2 ^ k := by
  have hl := low_bit k m hk (by rw [← ex]; exact hx)
  rw [← ex] at hl
  exact hl
theorem neg_y (x y : Nat) (h0 : 0 < x) (hx : x < 18446744073709551616) (hy : y = 18446744073709551616 - x) : y < 18446744073709551616 ∧ IntKind.u64.wrap (-(x : Int)) = (y : Int) := by
  refine ⟨by omega, by rw [IntKind.wrap_u64]; omega⟩
theorem low_pos (k m : Nat) (x : Nat) (ex : x = 2 ^ (k + 1) * m + 2 ^ k) : 0 < x := by have := Nat.two_pow_pos k; omega
theorem low_idx (k m : Nat) (hk : k < 64) (x : Nat) (ex : x = 2 ^ (k + 1) * m + 2 ^ k) (hx : x < 18446744073709551616) :
    IntKind.u64.wrap (bits .and .u64 (x : Int) (IntKind.u64.wrap (-(x : Int))) * 285870213051353865) / 288230376151711744 = (idxN k : Nat) := by
  have hl := low_bit_x k m hk x ex hx
  obtain ⟨y, hy⟩ : ∃ y, y = 18446744073709551616 - x := ⟨_, rfl⟩
  obtain ⟨hy2, e1⟩ := neg_y x y (low_pos k m x ex) hx hy
  rw [← hy] at hl
  exact idx_k k x y hx hy2 hl e1
set_option maxRecDepth 100000 in
theorem low_core (x i k : Nat) (w : World) (h0 : 0 < x) (hk : k < 64) (hi2 : (0 : Int) ≤ (i : Int) ∧ (i : Int) < 64) (hc : w.cell? ⟨0, i, none⟩ = some (.int .u8 (k : Int)))
    (H : Hid (IntKind.u64.wrap (bits .and .u64 (x : Int) (IntKind.u64.wrap (-(x : Int))) * 285870213051353865) / 288230376151711744 = (i : Int))) :
    Calls Tryd.prog 63 #[.int .u64 (x : Int)] w fun e w' => e = .returned (.int .i64 (k : Nat)) ∧ w = w' := by
  go_enter Tryd.func63, Tryd.ntmps63
  go_wp2_with ((with_reducible refine wpList_run (o := ⟨some 10, _, _, _, _, _⟩) rfl (.int .u64 (i : Int)) ?_ ?_); · (go_simp; rw [H.out]))
  go_ret
  exact ⟨rfl, rfl⟩
theorem low_any (k m : Nat) (hk : k < 64) (x : Nat) (ex : x = 2 ^ (k + 1) * m + 2 ^ k) (hx : x < 18446744073709551616) (w : World) (ht : TabAt w) :
    Calls Tryd.prog 63 #[.int .u64 (x : Int)] w fun e w' => e = .returned (.int .i64 (k : Nat)) ∧ w = w' := by
  obtain ⟨hi, htab⟩ := tab_at k hk
  have hc := ht.2 _ hi
  rw [htab] at hc
  have E := low_idx k m hk x ex hx
  generalize idxN k = i at hi hc E
  exact low_core x i k w (low_pos k m x ex) hk ⟨by omega, by omega⟩ hc (Lib.hid E)
/-- Has a set at least so many below n? -/
def enoughB (s : Nat) (n least : Int) : Bool := decide (0 < least) && decide (least ≤ (popK 64 (s &&& allZ n) : Nat))
set_option maxRecDepth 100000 in
theorem enough_any (s : Nat) (hs : s < 18446744073709551616) (n least : Int) (w : World) :
    Calls Tryd.prog 53 #[.int .u64 (s : Int), .int .i64 n, .int .i64 least] w fun e w' => e = .returned (.bool (enoughB s n least)) ∧ w = w' := by
  have B := all_any n
  have e := u64_and_nat s (allZ n) hs (allZ_lt n)
  have hlt : s &&& allZ n < 18446744073709551616 := Nat.lt_of_le_of_lt Nat.and_le_left hs
  unfold enoughB
  generalize allZ n = a at B e hlt ⊢
  generalize s &&& a = b at e hlt ⊢
  have C := count_any b hlt
  generalize popK 64 b = c at C ⊢
  clear hlt hs
  by_cases hl : 0 < least
  · go_enter Tryd.func53, Tryd.ntmps53
    go_wp2_with fail
    refine (B _).mono ?_
    rintro e w1 ⟨rfl, rfl⟩
    go_wp2_with fail
    refine (C _).mono ?_
    rintro e w1 ⟨rfl, rfl⟩
    clear e
    go_wp2_with fail
    go_ret
    exact ⟨by simp [hl], rfl⟩
  · go_enter Tryd.func53, Tryd.ntmps53
    go_wp2_with fail
    go_ret
    have hl2 : decide (0 < least) = false := by simpa using hl
    exact ⟨by rw [hl2]; rfl, rfl⟩
def strongZ (n : Int) : Int := if fN n = 0 then 0 else 2 * fN n + 1
def weakZ (n : Int) : Int := if fN n = 0 then 0 else fN n + 1
set_option maxRecDepth 100000 in
theorem isStrong_any (s : Nat) (hs : s < 18446744073709551616) (n : Int) (hn : -9223372036854775808 ≤ n ∧ n ≤ 9223372036854775807) (w : World) :
    Calls Tryd.prog 39 #[.int .u64 (s : Int), .int .i64 n] w fun e w' => e = .returned (.bool (enoughB s n (strongZ n))) ∧ w = w' := by
  have A := strong_any n hn
  have B := fun l => enough_any s hs n l
  unfold strongZ
  generalize (if fN n = 0 then 0 else 2 * fN n + 1) = l at A ⊢
  have B := B l
  generalize enoughB s n l = b at B ⊢
  clear hn hs
  go_enter Tryd.func39, Tryd.ntmps39
  go_wp2_with fail
  refine (A _).mono ?_
  rintro e w1 ⟨rfl, rfl⟩
  go_wp2_with fail
  refine (B _).mono ?_
  rintro e w1 ⟨rfl, rfl⟩
  go_wp2_with fail
  go_ret
  exact ⟨rfl, rfl⟩
/-- Who leads. -/
def primZ (v n : Int) : Int := if n < 1 then 0 else v % n
theorem tmod_facts (v n : Int) (h : 1 ≤ n) : -n < v.tmod n ∧ v.tmod n < n ∧ (v.tmod n < 0 → v.tmod n + n = v % n) ∧ (0 ≤ v.tmod n → v.tmod n = v % n) := by
  have h1 := Int.tmod_lt_of_pos v (show 0 < n by omega)
  have h2 := Int.emod_nonneg v (show n ≠ 0 by omega)
  have h3 := Int.emod_lt_of_pos v (show 0 < n by omega)
  have e := Int.tmod_eq_emod (a := v) (b := n)
  have en : ((n.natAbs : Nat) : Int) = n := by omega
  split at e
  · omega
  · rw [en] at e
    omega
set_option maxRecDepth 100000 in
theorem primary_core (v n p : Int) (h : 1 ≤ n) (hn : n ≤ 9223372036854775807) (h1 : -n < v.tmod n) (h2 : v.tmod n < n) (h3 : Hid (v.tmod n < 0 → v.tmod n + n = p)) (h4 : Hid (0 ≤ v.tmod n → v.tmod n = p)) (w : World) :
    Calls Tryd.prog 47 #[.int .i64 v, .int .i64 n] w fun e w' => e = .returned (.int .i64 p) ∧ w = w' := by
  go_enter Tryd.func47, Tryd.ntmps47
  go_wp2_with fail
  · have q : v.tmod n < 0 := by assumption
    go_ret
    exact ⟨by rw [← h3.out q]; rfl, rfl⟩
  · have q : 0 ≤ v.tmod n := by assumption
    go_ret
    exact ⟨by rw [← h4.out q]; rfl, rfl⟩
set_option maxRecDepth 100000 in
theorem primary_any (v n : Int) (hn : n ≤ 9223372036854775807) (w : World) :
    Calls Tryd.prog 47 #[.int .i64 v, .int .i64 n] w fun e w' => e = .returned (.int .i64 (primZ v n)) ∧ w = w' := by
  by_cases h : n < 1
  · rw [primZ, if_pos h]
    go_enter Tryd.func47, Tryd.ntmps47
    go_wp2_with fail
    go_ret
    exact ⟨rfl, rfl⟩
  · rw [primZ, if_neg h]
    obtain ⟨h1, h2, h3, h4⟩ := tmod_facts v n (by omega)
    exact primary_core v n _ (by omega) hn h1 h2 (Lib.hid h3) (Lib.hid h4) w
end Go.Proofs.YtgmblgpfgdfnaaaDoor
