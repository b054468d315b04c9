/- The reader of layer 1: what it cuts. Written by wip/tools/gen1s.py. -/
import Derived.Test.YtlafmalgioffkaaL01M
namespace Go.Proofs.Ytlafmalgioffkaa
open Go.RowKit
set_option linter.unusedVariables false
set_option linter.unusedSimpArgs false
set_option maxRecDepth 100000 in
set_option maxHeartbeats 1000000 in
theorem limited_any (B : Nat) (most : Int) (v : Value) (l : List UInt8) (at_ err x n c : Nat) (hr : Hid (cutL (l.drop at_) = (x, n, c))) (w : World) (h : RS w B v l at_ err) :
    Calls Try.prog 51 #[.agg #[.pointer (some ⟨B, 0, none⟩), .int .u64 most]] w fun e w' => e = .returned (if most < (x : Int) then .tuple #[.int .u64 0, .int .i64 0, .int .i64 8] else .tuple #[.int .u64 (x : Int), .int .i64 (n : Int), .int .i64 (c : Int)]) ∧ Below w.heap.size w w' := by
  have bel := (Below.refl w.heap.size w).alloc (Nat.le_refl _) (.cells #[.pointer (some ⟨B, 0, none⟩), .int .u64 most] 86)
  have qa := heap_alloc_new w (.cells #[.pointer (some ⟨B, 0, none⟩), .int .u64 most] 86)
  obtain ⟨qa0, qa1, qaf⟩ := block_cells2 qa
  go_enter Try.func51, Try.ntmps51
  go_wp2_with fail
  refine (rest_any B v l at_ err _ (h.below bel)).mono ?_
  rintro e w1 ⟨v1, rfl, hr1, g⟩
  have q1 := (g.block _ (lt_of_block qa)).trans qa
  obtain ⟨q10, q11, q1f⟩ := block_cells2 q1
  clear qa0 qa1 qaf q1f
  go_wp2_with fail
  refine (cut_at v1 (l.drop at_) x n c hr _ hr1).mono ?_
  rintro e w2 ⟨rfl, rfl⟩
  have bel1 := chain bel g
  by_cases hx : most < (x : Int)
  · go_wp2_with fail
    go_ret3
    exact ⟨rfl, bel1⟩
  · go_wp2_with fail
    go_ret3
    exact ⟨rfl, bel1⟩
set_option maxRecDepth 100000 in
theorem rdInt_any (B : Nat) (v : Value) (l : List UInt8) (at_ err x n c : Nat) (hr : Hid (cutL (l.drop at_) = (x, n, c))) (w : World) (h : RS w B v l at_ err) :
    Calls Try.prog 53 #[.pointer (some ⟨B, 0, none⟩)] w fun e w' => e = .returned (.tuple #[.int .i64 (unzig x), .int .i64 (n : Int), .int .i64 (c : Int)]) ∧ Below w.heap.size w w' := by
  go_enter Try.func53, Try.ntmps53
  go_wp2_with fail
  refine (rest_any B v l at_ err _ h).mono ?_
  rintro e w1 ⟨v1, rfl, hr1, g⟩
  go_wp2_with fail
  refine (cutInt_at v1 (l.drop at_) x n c hr _ hr1).mono ?_
  rintro e w2 ⟨rfl, rfl⟩
  go_wp2_with fail
  go_ret3
  exact ⟨rfl, g⟩
set_option maxRecDepth 100000 in
theorem rdText_any (B : Nat) (v : Value) (l : List UInt8) (at_ err n c : Nat) (s : List UInt8) (hs : Hid (cutTextL (l.drop at_) = (s, n, c))) (w : World) (h : RS w B v l at_ err) :
    Calls Try.prog 55 #[.pointer (some ⟨B, 0, none⟩)] w fun e w' => e = .returned (.tuple #[.string (str s), .int .i64 (n : Int), .int .i64 (c : Int)]) ∧ Below w.heap.size w w' := by
  obtain ⟨x, n', c', hc⟩ : ∃ x n c, cutL (l.drop at_) = (x, n, c) := ⟨_, _, _, rfl⟩
  have HC := Lib.hid hc
  clear hc
  have hle : (l.drop at_).length ≤ 2000 := by have := h.2.2.1; simp; omega
  go_enter Try.func55, Try.ntmps55
  go_wp2_with fail
  refine (rest_any B v l at_ err _ h).mono ?_
  rintro e w1 ⟨v1, rfl, hr1, g⟩
  go_wp2_with fail
  refine (cutText_at v1 (l.drop at_) x n' c' HC hle _ hr1).mono ?_
  rw [hs.out]
  rintro e w2 ⟨rfl, rfl⟩
  go_wp2_with fail
  go_ret3
  exact ⟨rfl, g⟩
set_option maxRecDepth 100000 in
theorem rdByte_end (B : Nat) (v : Value) (l : List UInt8) (at_ err : Nat) (hat : l.length ≤ at_) (w : World) (h : RS w B v l at_ err) :
    Calls Try.prog 57 #[.pointer (some ⟨B, 0, none⟩)] w fun e w' => e = .returned (.tuple #[.int .u8 0, .int .i64 0, .int .i64 2]) ∧ Below w.heap.size w w' := by
  have hd : l.drop at_ = [] := List.drop_of_length_le hat
  go_enter Try.func57, Try.ntmps57
  go_wp2_with fail
  refine (rest_any B v l at_ err _ h).mono ?_
  rintro e w1 ⟨v1, rfl, hr1, g⟩
  rw [hd] at hr1
  obtain ⟨ao, cap, rfl, -, -, -, -⟩ := hr1
  go_wp2_with fail
  go_ret3
  exact ⟨rfl, g⟩
set_option maxRecDepth 100000 in
theorem rdByte_some (B : Nat) (v : Value) (l : List UInt8) (at_ err : Nat) (hat : at_ < l.length) (z : Value) (hz : Hid (bv (l.getD at_ 0) = z)) (w : World) (h : RS w B v l at_ err) :
    Calls Try.prog 57 #[.pointer (some ⟨B, 0, none⟩)] w fun e w' => e = .returned (.tuple #[z, .int .i64 1, .int .i64 0]) ∧ Below w.heap.size w w' := by
  obtain ⟨m, hm⟩ : ∃ m, (l.drop at_).length = m + 1 := ⟨l.length - at_ - 1, by simp; omega⟩
  have hg : (l.drop at_).getD 0 0 = l.getD at_ 0 := by simp [List.getD]
  have HM := Lib.hid hm
  clear hm
  go_enter Try.func57, Try.ntmps57
  go_wp2_with fail
  refine (rest_any B v l at_ err _ h).mono ?_
  rintro e w1 ⟨v1, rfl, hr1, g⟩
  obtain ⟨ao, cap, rfl, hl, -, -, hx⟩ := hr1
  rw [HM.out] at hl hx ⊢
  obtain ⟨b, off, rfl, hb, hx⟩ := hx (by omega)
  have h0 := hx 0 (by omega)
  rw [hg, hz.out] at h0
  have h0' : w1.cell? ⟨b, off, none⟩ = some z := by simpa using h0
  clear h0
  have hne : (((m + 1 : Nat) : Int) == 0) = false := by simp; omega
  clear hx hg
  go_wp2_with fail
  go_ret3
  exact ⟨rfl, g⟩
set_option maxRecDepth 100000 in
theorem rdFlag_end (B : Nat) (v : Value) (l : List UInt8) (at_ err : Nat) (hat : l.length ≤ at_) (w : World) (h : RS w B v l at_ err) :
    Calls Try.prog 59 #[.pointer (some ⟨B, 0, none⟩)] w fun e w' => e = .returned (.tuple #[.bool false, .int .i64 0, .int .i64 2]) ∧ Below w.heap.size w w' := by
  go_enter Try.func59, Try.ntmps59
  go_wp2_with fail
  refine (rdByte_end B v l at_ err hat _ h).mono ?_
  rintro e w1 ⟨rfl, g⟩
  go_wp2_with fail
  all_goals
    go_ret3
    exact ⟨rfl, g⟩
set_option maxRecDepth 100000 in
theorem rdFlag_bad (B : Nat) (v : Value) (l : List UInt8) (at_ err : Nat) (hat : at_ < l.length) (z : Int) (hz : Hid (bv (l.getD at_ 0) = .int .u8 z)) (hz1 : 1 < z) (w : World) (h : RS w B v l at_ err) :
    Calls Try.prog 59 #[.pointer (some ⟨B, 0, none⟩)] w fun e w' => e = .returned (.tuple #[.bool false, .int .i64 0, .int .i64 3]) ∧ Below w.heap.size w w' := by
  go_enter Try.func59, Try.ntmps59
  go_wp2_with fail
  refine (rdByte_some B v l at_ err hat (.int .u8 z) hz _ h).mono ?_
  rintro e w1 ⟨rfl, g⟩
  go_wp2_with fail
  all_goals
    go_ret3
    exact ⟨rfl, g⟩
set_option maxRecDepth 100000 in
theorem rdFlag_is (B : Nat) (v : Value) (l : List UInt8) (at_ err : Nat) (hat : at_ < l.length) (z : Int) (hz : Hid (bv (l.getD at_ 0) = .int .u8 z)) (hz1 : ¬ 1 < z) (w : World) (h : RS w B v l at_ err) :
    Calls Try.prog 59 #[.pointer (some ⟨B, 0, none⟩)] w fun e w' => e = .returned (.tuple #[.bool (z == 1), .int .i64 1, .int .i64 0]) ∧ Below w.heap.size w w' := by
  go_enter Try.func59, Try.ntmps59
  go_wp2_with fail
  refine (rdByte_some B v l at_ err hat (.int .u8 z) hz _ h).mono ?_
  rintro e w1 ⟨rfl, g⟩
  go_wp2_with fail
  all_goals
    go_ret3
    exact ⟨rfl, g⟩
end Go.Proofs.Ytlafmalgioffkaa
