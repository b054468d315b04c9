/- Quorums: the lowest bit; enough; who leads. -/
import Derived.Test.YtgmblgpfgdfnaaaQMM7
import Derived.Test.YtgmblgpfgdfnaaaQMM8
namespace Go.Proofs.Ytgmblgpfgdfnaaa
open Go.RowKit
set_option linter.unusedVariables false
set_option linter.unusedSimpArgs false
theorem wpList_run {P : Program} {ops : Array Oper} {rest : List Oper} {o : Oper} {a : Act} {Q : Exit → Act → World → Prop} {w : World} (hgd : o.guard = none) (v : Value) (hr : (execOp a.eval o).run P w = .ok (.value v) w)
    (hK : wpList P ops Q rest (a.put o.dst v) w) : wpList P ops Q (o :: rest) a w := by
  refine wpList_plain hgd fun K hK' => ?_
  unfold Oper.wp
  rw [hr]
  exact hK' _ _ hK
/-- The library's table lies where it was laid. -/
def TabAt (w : World) : Prop := 0 < w.heap.size ∧ ∀ i, i < 64 → w.cell? ⟨0, i, none⟩ = some (.int .u8 (tabN.getD i 0 : Nat))
theorem TabAt.below {w w' : World} {B : Nat} (h : TabAt w) (hb : Below B w w') (hB : 0 < B) : TabAt w' :=
  ⟨Nat.lt_of_lt_of_le h.1 hb.size, fun i hi => (hb.cell (p := ⟨0, i, none⟩) hB).trans (h.2 i hi)⟩
theorem idx_p (p : Nat) : ((p : Int) * 285870213051353865 % 18446744073709551616) / 288230376151711744 = ((p * 285870213051353865 % 18446744073709551616 / 288230376151711744 : Nat) : Int) := by omega
theorem and_p (x y p : Nat) (hx : x < 18446744073709551616) (hy2 : y < 18446744073709551616) (hl : x &&& y = p) : bits .and .u64 (x : Int) (y : Int) = ((p : Nat) : Int) := by
  rw [← hl]; exact u64_and_nat x y hx hy2
theorem idx_q (x y p : Nat) (e1 : IntKind.u64.wrap (-(x : Int)) = (y : Int)) (e2 : bits .and .u64 (x : Int) (y : Int) = ((p : Nat) : Int)) : IntKind.u64.wrap (bits .and .u64 (x : Int) (IntKind.u64.wrap (-(x : Int))) * 285870213051353865) / 288230376151711744 = ((p * 285870213051353865 % 18446744073709551616 / 288230376151711744 : Nat) : Int) := by
  have h := idx_p p
  rw [← IntKind.wrap_u64, ← e2, ← e1] at h
  exact h
theorem idx_k (k x y : Nat) (hx : x < 18446744073709551616) (hy2 : y < 18446744073709551616) (hl : x &&& y = 2 ^ k) (e1 : IntKind.u64.wrap (-(x : Int)) = (y : Int)) : IntKind.u64.wrap (bits .and .u64 (x : Int) (IntKind.u64.wrap (-(x : Int))) * 285870213051353865) / 288230376151711744 = (idxN k : Nat) :=
  idx_q x y (2 ^ k) e1 (and_p x y (2 ^ k) hx hy2 hl)
theorem low_bit_x (k m : Nat) (hk : k < 64) (x : Nat) (ex : x = 2 ^ (k + 1) * m + 2 ^ k) (hx : x < 18446744073709551616) : x &&& (18446744073709551616 - x) = 2 ^ k := by
  have hl := low_bit k m hk (by rw [← ex]; exact hx)
  rw [← ex] at hl
  exact hl
theorem neg_y (x y : Nat) (h0 : 0 < x) (hx : x < 18446744073709551616) (hy : y = 18446744073709551616 - x) : y < 18446744073709551616 ∧ IntKind.u64.wrap (-(x : Int)) = (y : Int) := by
  refine ⟨by omega, by rw [IntKind.wrap_u64]; omega⟩
theorem low_pos (k m : Nat) (x : Nat) (ex : x = 2 ^ (k + 1) * m + 2 ^ k) : 0 < x := by have := Nat.two_pow_pos k; omega
theorem low_idx (k m : Nat) (hk : k < 64) (x : Nat) (ex : x = 2 ^ (k + 1) * m + 2 ^ k) (hx : x < 18446744073709551616) :
    IntKind.u64.wrap (bits .and .u64 (x : Int) (IntKind.u64.wrap (-(x : Int))) * 285870213051353865) / 288230376151711744 = (idxN k : Nat) := by
  have hl := low_bit_x k m hk x ex hx
  obtain ⟨y, hy⟩ : ∃ y, y = 18446744073709551616 - x := ⟨_, rfl⟩
  obtain ⟨hy2, e1⟩ := neg_y x y (low_pos k m x ex) hx hy
  rw [← hy] at hl
  exact idx_k k x y hx hy2 hl e1
/-- Has a set at least so many below n? -/
def enoughB (s : Nat) (n least : Int) : Bool := decide (0 < least) && decide (least ≤ (popK 64 (s &&& allZ n) : Nat))
set_option maxRecDepth 100000 in
theorem enough_any (s : Nat) (hs : s < 18446744073709551616) (n least : Int) (w : World) :
    Calls Try.prog 73 #[.int .u64 (s : Int), .int .i64 n, .int .i64 least] w fun e w' => e = .returned (.bool (enoughB s n least)) ∧ w = w' := by
  have B := all_any n
  have e := u64_and_nat s (allZ n) hs (allZ_lt n)
  have hlt : s &&& allZ n < 18446744073709551616 := Nat.lt_of_le_of_lt Nat.and_le_left hs
  unfold enoughB
  generalize allZ n = a at B e hlt ⊢
  generalize s &&& a = b at e hlt ⊢
  have C := count_any b hlt
  generalize popK 64 b = c at C ⊢
  clear hlt hs
  by_cases hl : 0 < least
  · go_enter Try.func73, Try.ntmps73
    go_wp2_with fail
    refine (B _).mono ?_
    rintro e w1 ⟨rfl, rfl⟩
    go_wp2_with fail
    refine (C _).mono ?_
    rintro e w1 ⟨rfl, rfl⟩
    clear e
    go_wp2_with fail
    go_ret
    exact ⟨by simp [hl], rfl⟩
  · go_enter Try.func73, Try.ntmps73
    go_wp2_with fail
    go_ret
    have hl2 : decide (0 < least) = false := by simpa using hl
    exact ⟨by rw [hl2]; rfl, rfl⟩
def strongZ (n : Int) : Int := if fN n = 0 then 0 else 2 * fN n + 1
def weakZ (n : Int) : Int := if fN n = 0 then 0 else fN n + 1
set_option maxRecDepth 100000 in
theorem isStrong_any (s : Nat) (hs : s < 18446744073709551616) (n : Int) (hn : -9223372036854775808 ≤ n ∧ n ≤ 9223372036854775807) (w : World) :
    Calls Try.prog 53 #[.int .u64 (s : Int), .int .i64 n] w fun e w' => e = .returned (.bool (enoughB s n (strongZ n))) ∧ w = w' := by
  have A := strong_any n hn
  have B := fun l => enough_any s hs n l
  unfold strongZ
  generalize (if fN n = 0 then 0 else 2 * fN n + 1) = l at A ⊢
  have B := B l
  generalize enoughB s n l = b at B ⊢
  clear hn hs
  go_enter Try.func53, Try.ntmps53
  go_wp2_with fail
  refine (A _).mono ?_
  rintro e w1 ⟨rfl, rfl⟩
  go_wp2_with fail
  refine (B _).mono ?_
  rintro e w1 ⟨rfl, rfl⟩
  go_wp2_with fail
  go_ret
  exact ⟨rfl, rfl⟩
/-- Who leads. -/
def primZ (v n : Int) : Int := if n < 1 then 0 else v % n
theorem tmod_facts (v n : Int) (h : 1 ≤ n) : -n < v.tmod n ∧ v.tmod n < n ∧ (v.tmod n < 0 → v.tmod n + n = v % n) ∧ (0 ≤ v.tmod n → v.tmod n = v % n) := by
  have h1 := Int.tmod_lt_of_pos v (show 0 < n by omega)
  have h2 := Int.emod_nonneg v (show n ≠ 0 by omega)
  have h3 := Int.emod_lt_of_pos v (show 0 < n by omega)
  have e := Int.tmod_eq_emod (a := v) (b := n)
  have en : ((n.natAbs : Nat) : Int) = n := by omega
  split at e
  · omega
  · rw [en] at e
    omega
end Go.Proofs.Ytgmblgpfgdfnaaa
