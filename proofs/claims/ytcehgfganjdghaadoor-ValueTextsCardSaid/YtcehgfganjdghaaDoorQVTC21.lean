/- The document's own answers of layer 1, as walks: each comes to what the plain function says. -/
import Derived.Test.YtcehgfganjdghaaDoorQVTC19
import Derived.Laws.AppendOwnNone
namespace Go.Proofs.YtcehgfganjdghaaDoor
open Go.RowKit
set_option linter.unusedVariables false
set_option linter.unusedSimpArgs false
set_option maxRecDepth 100000 in
set_option maxHeartbeats 400000 in
theorem refPut_any (v : Int) (m : Nat) (hv : v = (m : Int)) (hu : U64 v) (w : World) :
    Calls Tryd.prog 49 #[.int .u64 v] w fun e w' => e = .returned (.string (str (putL m))) ∧ Below w.heap.size w w' := by
  obtain ⟨i0, hi, hz0, hz1, hz2⟩ := info_parts u8info
  subst hv
  go_enter Tryd.func49, Tryd.ntmps49
  go_wp2_with fail
  go_loopw [0, 3] (fun x s wr => ∃ (y : Nat) (pre : List UInt8), x = .int .u64 y ∧ Hid (y * 128 ^ pre.length < 18446744073709551616) ∧ pre.length ≤ 9 ∧ wr.ownsRow w.heap.size 5 1 s pre.length (pre.map bv) ∧ Hid (pre ++ putF (9 - pre.length) y = putL m) ∧ Below w.heap.size w wr)
    (fun x _ _ => (intOf x).toNat)
  case atStart => exact ⟨m, [], rfl, by have := hu.2; show _ < _; simp; omega, by simp, World.ownsRow_nil _ _ _ _, rfl, Below.refl _ _⟩
  case round =>
    obtain ⟨y, pre, rfl, hy, hp, hown, hpre, hb⟩ := hrel
    by_cases h128 : 128 ≤ (y : Int)
    · go_wp2_with (at_builtin; go_loud (refine wpList_app1 w rfl _ _ 58 rfl w.heap.size 5 i0 (.int .u8 0) 1 Tryd.underlying58 hi hz0 hz1 hz2 rfl _ _ _ rfl hown _ _ rfl rfl (by unfold maxLen; omega) (by omega) (Nat.le_refl _) hb ?_); intro v' w1 hown' hb')
      have ew : IntKind.u64.wrap ((y : Int) / 128) = ((y / 128 : Nat) : Int) := by
        have := hy.out
        have : y * 1 ≤ y * 128 ^ pre.length := Nat.mul_le_mul_left _ (Nat.pow_pos (by decide))
        rw [IntKind.wrap_u64]; omega
      have eb : Value.int .u8 ((y : Int) % 128 + 128) = bv (UInt8.ofNat (y % 128 + 128)) := by rw [← byte_more]; congr 1; have := or128 (y % 256) (Nat.mod_lt _ (by decide)); rw [show ((y : Int) % 256) = ((y % 256 : Nat) : Int) from by omega, this]; omega
      rw [eb] at hown'
      rw [ew]
      have hs := put_step hy hp hpre (by omega)
      go_roundw
      case rel => exact ⟨y / 128, pre ++ [UInt8.ofNat (y % 128 + 128)], rfl, hs.2.1, by simp; omega, by simpa using hown', hs.2.2, hb'⟩
      case measure => simp [intOf]; omega
    · have hl := put_last hpre (by omega)
      have HL := Lib.hid hl
      clear hl
      go_wp2_with (at_builtin; go_loud (refine wpList_app1 w rfl _ _ 58 rfl w.heap.size 5 i0 (.int .u8 0) 1 Tryd.underlying58 hi hz0 hz1 hz2 rfl _ _ _ rfl hown _ _ rfl rfl (by unfold maxLen; omega) (by omega) (Nat.le_refl _) hb ?_); intro v' w1 hown' hb'; rw [byte_last y (by omega), ← List.map_singleton, ← List.map_append, HL.out] at hown'; obtain ⟨g, cap, rfl, _, _⟩ := slice_of_own hown' (by omega); have k1 := conv_rd (P := Tryd.prog) (own_rd hown') 58 5 9 Tryd.underlying58 Tryd.underlying5 Tryd.underlying9)
      go_ret
      exact ⟨rfl, hb'⟩
end Go.Proofs.YtcehgfganjdghaaDoor
