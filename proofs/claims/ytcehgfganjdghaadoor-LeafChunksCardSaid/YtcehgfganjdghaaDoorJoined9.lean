/- Values: sum, difference, product, quotient, what is left. Written by wip/tools/gen7i.py. -/
/- The document's own answers of layer 1, as walks: each comes to what the plain function says. -/
/- Values: sums, differences, sizes, products, as the document reckons them. -/
import Derived.Test.YtcehgfganjdghaaDoorV07H
import Derived.RangeFuncWrites
import Derived.Test.YtcehgfganjdghaaDoorJoined6
import Derived.Laws.AppendOwnNone
namespace Go.Proofs.YtcehgfganjdghaaDoor.V7
open Go Go.RowKit
set_option linter.unusedVariables false
set_option linter.unusedSimpArgs false
/-- What an operation comes to, as the program has it. -/
def opV (E er z : Int) : Value := .tuple #[.agg #[.int .i64 (cmpK E er), .int .i64 (cmpI E er z), .string (str [])], .int .i64 (cmpE E er)]
set_option maxRecDepth 100000 in
set_option maxHeartbeats 400000 in
theorem add_any (k i : Int) (s : List UInt8) (k' i' : Int) (s' : List UInt8) (hs : s.length ≤ maxLen) (hs' : s'.length ≤ maxLen) (hi : fits i) (hi' : fits i') (w : World) :
    Calls Tryd.prog 75 #[.agg #[.int .i64 k, .int .i64 i, .string (str s)], .agg #[.int .i64 k', .int .i64 i', .string (str s')]] w fun e w' => e = .returned (opV (expE 2 ⟨k, i, s⟩ ⟨k', i', s'⟩) (overE (i + i')) (wrap64 (i + i'))) ∧ Below w.heap.size w w' := by
  have X := fun w => compute_any 97 (wrap64 (i + i')) (overE (i + i')) k i s k' i' s' hs hs' (fun w => (addF_any i i' hi hi' w).mono fun e w' h => ⟨h.1, by rw [h.2]; exact Below.refl _ _⟩) (enters_of Tryd.func97 (by kernel_rfl) rfl) w
  unfold opV
  generalize cmpK (expE 2 ⟨k, i, s⟩ ⟨k', i', s'⟩) (overE (i + i')) = K at X ⊢
  generalize cmpI (expE 2 ⟨k, i, s⟩ ⟨k', i', s'⟩) (overE (i + i')) (wrap64 (i + i')) = I at X ⊢
  generalize cmpE (expE 2 ⟨k, i, s⟩ ⟨k', i', s'⟩) (overE (i + i')) = E at X ⊢
  clear hs hs' hi hi'
  obtain ⟨q1, q2, q3⟩ := three_allocs w (.cells #[.int .i64 k, .int .i64 i, .string (str s)] 30) (.cells #[.int .i64 k', .int .i64 i', .string (str s')] 30) (.cells #[.int .i64 0, .int .i64 0, .string (str [])] 30)
  have bel : Below w.heap.size w (((w.alloc (.cells #[.int .i64 k, .int .i64 i, .string (str s)] 30)).alloc (.cells #[.int .i64 k', .int .i64 i', .string (str s')] 30)).alloc (.cells #[.int .i64 0, .int .i64 0, .string (str [])] 30)) := (((Below.refl _ w).alloc (Nat.le_refl _) _).alloc (by simp) _).alloc (by simp; omega) _
  go_enter Tryd.func75, Tryd.ntmps75
  go_wp2_with fail
  refine (X _).mono ?_
  rintro e w1 ⟨rfl, g⟩
  clear q1 q2
  replace q3 := (g.block _ (lt_of_block q3)).trans q3
  replace bel := chain bel g
  clear g X
  obtain ⟨q3c0, q3c1, q3c2⟩ := cells3 q3
  have q3l := lt_of_block q3
  have fz := frozen3 q3
  go_wp2_with fail
  obtain ⟨r0, r1, r2, bel2⟩ := set3 (.int .i64 K) (.int .i64 I) (.string (str [])) q3 bel (by omega)
  refine bodyPost_ret (v := .tuple #[.agg #[.int .i64 K, .int .i64 I, .string (str [])], .int .i64 E]) (by simp [results, Tryd.results75, go_sem, r0, r1, r2, str_e]) rfl ⟨rfl, bel2⟩
set_option maxRecDepth 100000 in
set_option maxHeartbeats 400000 in
theorem div_any (k i : Int) (s : List UInt8) (k' i' : Int) (s' : List UInt8) (hs : s.length ≤ maxLen) (hs' : s'.length ≤ maxLen) (w : World) :
    Calls Tryd.prog 76 #[.agg #[.int .i64 k, .int .i64 i, .string (str s)], .agg #[.int .i64 k', .int .i64 i', .string (str s')]] w fun e w' => e = .returned (opV (expE 2 ⟨k, i, s⟩ ⟨k', i', s'⟩) (divE i i') (divN i i')) ∧ Below w.heap.size w w' := by
  have X := fun w => compute_any 99 (divN i i') (divE i i') k i s k' i' s' hs hs' (fun w => divF_any i i' w) (enters_of Tryd.func99 (by kernel_rfl) rfl) w
  unfold opV
  generalize cmpK (expE 2 ⟨k, i, s⟩ ⟨k', i', s'⟩) (divE i i') = K at X ⊢
  generalize cmpI (expE 2 ⟨k, i, s⟩ ⟨k', i', s'⟩) (divE i i') (divN i i') = I at X ⊢
  generalize cmpE (expE 2 ⟨k, i, s⟩ ⟨k', i', s'⟩) (divE i i') = E at X ⊢
  clear hs hs'
  obtain ⟨q1, q2, q3⟩ := three_allocs w (.cells #[.int .i64 k, .int .i64 i, .string (str s)] 30) (.cells #[.int .i64 k', .int .i64 i', .string (str s')] 30) (.cells #[.int .i64 0, .int .i64 0, .string (str [])] 30)
  have bel : Below w.heap.size w (((w.alloc (.cells #[.int .i64 k, .int .i64 i, .string (str s)] 30)).alloc (.cells #[.int .i64 k', .int .i64 i', .string (str s')] 30)).alloc (.cells #[.int .i64 0, .int .i64 0, .string (str [])] 30)) := (((Below.refl _ w).alloc (Nat.le_refl _) _).alloc (by simp) _).alloc (by simp; omega) _
  go_enter Tryd.func76, Tryd.ntmps76
  go_wp2_with fail
  refine (X _).mono ?_
  rintro e w1 ⟨rfl, g⟩
  clear q1 q2
  replace q3 := (g.block _ (lt_of_block q3)).trans q3
  replace bel := chain bel g
  clear g X
  obtain ⟨q3c0, q3c1, q3c2⟩ := cells3 q3
  have q3l := lt_of_block q3
  have fz := frozen3 q3
  go_wp2_with fail
  obtain ⟨r0, r1, r2, bel2⟩ := set3 (.int .i64 K) (.int .i64 I) (.string (str [])) q3 bel (by omega)
  refine bodyPost_ret (v := .tuple #[.agg #[.int .i64 K, .int .i64 I, .string (str [])], .int .i64 E]) (by simp [results, Tryd.results76, go_sem, r0, r1, r2, str_e]) rfl ⟨rfl, bel2⟩
set_option maxRecDepth 100000 in
set_option maxHeartbeats 400000 in
theorem mod_any (k i : Int) (s : List UInt8) (k' i' : Int) (s' : List UInt8) (hs : s.length ≤ maxLen) (hs' : s'.length ≤ maxLen) (w : World) :
    Calls Tryd.prog 77 #[.agg #[.int .i64 k, .int .i64 i, .string (str s)], .agg #[.int .i64 k', .int .i64 i', .string (str s')]] w fun e w' => e = .returned (opV (expE 2 ⟨k, i, s⟩ ⟨k', i', s'⟩) (modE i') (modN i i')) ∧ Below w.heap.size w w' := by
  have X := fun w => compute_any 100 (modN i i') (modE i') k i s k' i' s' hs hs' (fun w => modF_any i i' w) (enters_of Tryd.func100 (by kernel_rfl) rfl) w
  unfold opV
  generalize cmpK (expE 2 ⟨k, i, s⟩ ⟨k', i', s'⟩) (modE i') = K at X ⊢
  generalize cmpI (expE 2 ⟨k, i, s⟩ ⟨k', i', s'⟩) (modE i') (modN i i') = I at X ⊢
  generalize cmpE (expE 2 ⟨k, i, s⟩ ⟨k', i', s'⟩) (modE i') = E at X ⊢
  clear hs hs'
  obtain ⟨q1, q2, q3⟩ := three_allocs w (.cells #[.int .i64 k, .int .i64 i, .string (str s)] 30) (.cells #[.int .i64 k', .int .i64 i', .string (str s')] 30) (.cells #[.int .i64 0, .int .i64 0, .string (str [])] 30)
  have bel : Below w.heap.size w (((w.alloc (.cells #[.int .i64 k, .int .i64 i, .string (str s)] 30)).alloc (.cells #[.int .i64 k', .int .i64 i', .string (str s')] 30)).alloc (.cells #[.int .i64 0, .int .i64 0, .string (str [])] 30)) := (((Below.refl _ w).alloc (Nat.le_refl _) _).alloc (by simp) _).alloc (by simp; omega) _
  go_enter Tryd.func77, Tryd.ntmps77
  go_wp2_with fail
  refine (X _).mono ?_
  rintro e w1 ⟨rfl, g⟩
  clear q1 q2
  replace q3 := (g.block _ (lt_of_block q3)).trans q3
  replace bel := chain bel g
  clear g X
  obtain ⟨q3c0, q3c1, q3c2⟩ := cells3 q3
  have q3l := lt_of_block q3
  have fz := frozen3 q3
  go_wp2_with fail
  obtain ⟨r0, r1, r2, bel2⟩ := set3 (.int .i64 K) (.int .i64 I) (.string (str [])) q3 bel (by omega)
  refine bodyPost_ret (v := .tuple #[.agg #[.int .i64 K, .int .i64 I, .string (str [])], .int .i64 E]) (by simp [results, Tryd.results77, go_sem, r0, r1, r2, str_e]) rfl ⟨rfl, bel2⟩
end Go.Proofs.YtcehgfganjdghaaDoor.V7
namespace Go.Proofs.YtcehgfganjdghaaDoor
open Go.RowKit
set_option linter.unusedVariables false
set_option linter.unusedSimpArgs false
set_option maxRecDepth 100000 in
set_option maxHeartbeats 400000 in
theorem refPut_any (v : Int) (m : Nat) (hv : v = (m : Int)) (hu : U64 v) (w : World) :
    Calls Tryd.prog 49 #[.int .u64 v] w fun e w' => e = .returned (.string (str (putL m))) ∧ Below w.heap.size w w' := by
  obtain ⟨i0, hi, hz0, hz1, hz2⟩ := info_parts u8info
  subst hv
  go_enter Tryd.func49, Tryd.ntmps49
  go_wp2_with fail
  go_loopw [0, 3] (fun x s wr => ∃ (y : Nat) (pre : List UInt8), x = .int .u64 y ∧ Hid (y * 128 ^ pre.length < 18446744073709551616) ∧ pre.length ≤ 9 ∧ wr.ownsRow w.heap.size 5 1 s pre.length (pre.map bv) ∧ Hid (pre ++ putF (9 - pre.length) y = putL m) ∧ Below w.heap.size w wr)
    (fun x _ _ => (intOf x).toNat)
  case atStart => exact ⟨m, [], rfl, by have := hu.2; show _ < _; simp; omega, by simp, World.ownsRow_nil _ _ _ _, rfl, Below.refl _ _⟩
  case round =>
    obtain ⟨y, pre, rfl, hy, hp, hown, hpre, hb⟩ := hrel
    by_cases h128 : 128 ≤ (y : Int)
    · go_wp2_with (at_builtin; go_loud (refine wpList_app1 w rfl _ _ 58 rfl w.heap.size 5 i0 (.int .u8 0) 1 Tryd.underlying58 hi hz0 hz1 hz2 rfl _ _ _ rfl hown _ _ rfl rfl (by unfold maxLen; omega) (by omega) (Nat.le_refl _) hb ?_); intro v' w1 hown' hb')
      have ew : IntKind.u64.wrap ((y : Int) / 128) = ((y / 128 : Nat) : Int) := by
        have := hy.out
        have : y * 1 ≤ y * 128 ^ pre.length := Nat.mul_le_mul_left _ (Nat.pow_pos (by decide))
        rw [IntKind.wrap_u64]; omega
      have eb : Value.int .u8 ((y : Int) % 128 + 128) = bv (UInt8.ofNat (y % 128 + 128)) := by rw [← byte_more]; congr 1; have := or128 (y % 256) (Nat.mod_lt _ (by decide)); rw [show ((y : Int) % 256) = ((y % 256 : Nat) : Int) from by omega, this]; omega
      rw [eb] at hown'
      rw [ew]
      have hs := put_step hy hp hpre (by omega)
      go_roundw
      case rel => exact ⟨y / 128, pre ++ [UInt8.ofNat (y % 128 + 128)], rfl, hs.2.1, by simp; omega, by simpa using hown', hs.2.2, hb'⟩
      case measure => simp [intOf]; omega
    · have hl := put_last hpre (by omega)
      have HL := Lib.hid hl
      clear hl
      go_wp2_with (at_builtin; go_loud (refine wpList_app1 w rfl _ _ 58 rfl w.heap.size 5 i0 (.int .u8 0) 1 Tryd.underlying58 hi hz0 hz1 hz2 rfl _ _ _ rfl hown _ _ rfl rfl (by unfold maxLen; omega) (by omega) (Nat.le_refl _) hb ?_); intro v' w1 hown' hb'; rw [byte_last y (by omega), ← List.map_singleton, ← List.map_append, HL.out] at hown'; obtain ⟨g, cap, rfl, _, _⟩ := slice_of_own hown' (by omega); have k1 := conv_rd (P := Tryd.prog) (own_rd hown') 58 5 9 Tryd.underlying58 Tryd.underlying5 Tryd.underlying9)
      go_ret
      exact ⟨rfl, hb'⟩
end Go.Proofs.YtcehgfganjdghaaDoor
namespace Go.Proofs.YtcehgfganjdghaaDoor.V7
open Go Go.RowKit
set_option linter.unusedVariables false
set_option linter.unusedSimpArgs false
theorem half_neg (a : Int) (h : a < 0) : a.tdiv 4294967296 = -((-a) / 4294967296) ∧ a.tmod 4294967296 = -((-a) % 4294967296) := by
  obtain ⟨b, rfl⟩ : ∃ b : Nat, a = -(b : Int) := ⟨a.natAbs, by omega⟩
  rw [Int.neg_tdiv, Int.neg_tmod, Int.neg_neg, Int.tdiv_eq_ediv_of_nonneg (by omega), Int.tmod_eq_emod_of_nonneg (by omega)]
  exact ⟨rfl, rfl⟩
theorem ret_two {k k' : IntKind} {a b a' b' : Int} (h : a = a') (h' : b = b') : Ending.returned (.tuple #[.int k a, .int k' b]) = Ending.returned (.tuple #[.int k a', .int k' b']) := by rw [h, h']
/-- The halves of a number. -/
theorem halves (a : Int) (h : fits a) : ∃ q r : Int, Hid (q = a / 4294967296) ∧ Hid (r = a % 4294967296) ∧ Hid (a = q * 4294967296 + r) ∧ -2147483648 ≤ q ∧ q ≤ 2147483647 ∧ 0 ≤ r ∧ r < 4294967296 := by
  obtain ⟨f1, f2⟩ := h
  exact ⟨a / 4294967296, a % 4294967296, rfl, rfl, by show a = _; omega, by omega, by omega, by omega, by omega⟩
theorem ret_nb {a a' : Int} {b b' : Bool} (h : a = a') (h' : b = b') : Ending.returned (.tuple #[.int .i64 a, .bool b]) = Ending.returned (.tuple #[.int .i64 a', .bool b']) := by rw [h, h']
theorem ret_u {a b : Int} (h : a = b) : Ending.returned (.int .u64 a) = Ending.returned (.int .u64 b) := by rw [h]
theorem size_at (a : Int) (n : Nat) (hn : Hid (n = a.natAbs)) (hf : fits a) (w : World) :
    Calls Tryd.prog 102 #[.int .i64 a] w fun e w' => e = .returned (.int .u64 (n : Int)) ∧ w = w' := by
  obtain ⟨f1, f2⟩ := hf
  by_cases h : a < 0
  · go_enter Tryd.func102, Tryd.ntmps102
    go_wp2_with fail
    go_ret
    refine ⟨ret_u ?_, rfl⟩
    have := hn.out
    omega
  · go_enter Tryd.func102, Tryd.ntmps102
    go_wp2_with fail
    go_ret
    refine ⟨ret_u ?_, rfl⟩
    have := hn.out
    rw [hn.out]
    try simp only [IntKind.wrap_u64]
    omega
/-- A size with a sign. -/
def signN (n : Nat) (g : Bool) : Int := if n = 9223372036854775808 then -9223372036854775808 else if g = true then -(n : Int) else n
def signB (n : Nat) (g : Bool) : Bool := if n = 9223372036854775808 then g else true
end Go.Proofs.YtcehgfganjdghaaDoor.V7
