/- The document's cut of a string's bytes: the plain function's answer. -/
/- The document's own answers of layer 1, as walks: each comes to what the plain function says. -/
/- Texts of layer 1. -/
import Derived.Test.YtmjedjhkhjiigaaDoorQTDC32
import Derived.Laws.AppendOwnNone
namespace Go.Proofs.YtmjedjhkhjiigaaDoor
open Go.RowKit
set_option linter.unusedVariables false
set_option linter.unusedSimpArgs false
theorem str_byte (l : List UInt8) (k : Nat) (h : k < (str l).size) : (str l)[k]'h = l.getD k 0 := by
  have h' : k < l.length := by rwa [str_size] at h
  show l.toArray[k] = _
  simp [List.getD, h']
end Go.Proofs.YtmjedjhkhjiigaaDoor
namespace Go.Proofs.YtmjedjhkhjiigaaDoor
open Go.RowKit
set_option linter.unusedVariables false
set_option linter.unusedSimpArgs false
set_option maxRecDepth 100000 in
set_option maxHeartbeats 400000 in
theorem refPut_any (v : Int) (m : Nat) (hv : v = (m : Int)) (hu : U64 v) (w : World) :
    Calls Tryd.prog 60 #[.int .u64 v] w fun e w' => e = .returned (.string (str (putL m))) ∧ Below w.heap.size w w' := by
  obtain ⟨i0, hi, hz0, hz1, hz2⟩ := info_parts u8info
  subst hv
  go_enter Tryd.func60, Tryd.ntmps60
  go_wp2_with fail
  go_loopw [0, 3] (fun x s wr => ∃ (y : Nat) (pre : List UInt8), x = .int .u64 y ∧ Hid (y * 128 ^ pre.length < 18446744073709551616) ∧ pre.length ≤ 9 ∧ wr.ownsRow w.heap.size 5 1 s pre.length (pre.map bv) ∧ Hid (pre ++ putF (9 - pre.length) y = putL m) ∧ Below w.heap.size w wr)
    (fun x _ _ => (intOf x).toNat)
  case atStart => exact ⟨m, [], rfl, by have := hu.2; show _ < _; simp; omega, by simp, World.ownsRow_nil _ _ _ _, rfl, Below.refl _ _⟩
  case round =>
    obtain ⟨y, pre, rfl, hy, hp, hown, hpre, hb⟩ := hrel
    by_cases h128 : 128 ≤ (y : Int)
    · go_wp2_with (at_builtin; go_loud (refine wpList_app1 w rfl _ _ 88 rfl w.heap.size 5 i0 (.int .u8 0) 1 Tryd.underlying88 hi hz0 hz1 hz2 rfl _ _ _ rfl hown _ _ rfl rfl (by unfold maxLen; omega) (by omega) (Nat.le_refl _) hb ?_); intro v' w1 hown' hb')
      have ew : IntKind.u64.wrap ((y : Int) / 128) = ((y / 128 : Nat) : Int) := by
        have := hy.out
        have : y * 1 ≤ y * 128 ^ pre.length := Nat.mul_le_mul_left _ (Nat.pow_pos (by decide))
        rw [IntKind.wrap_u64]; omega
      have eb : Value.int .u8 ((y : Int) % 128 + 128) = bv (UInt8.ofNat (y % 128 + 128)) := by rw [← byte_more]; congr 1; have := or128 (y % 256) (Nat.mod_lt _ (by decide)); rw [show ((y : Int) % 256) = ((y % 256 : Nat) : Int) from by omega, this]; omega
      rw [eb] at hown'
      rw [ew]
      have hs := put_step hy hp hpre (by omega)
      go_roundw
      case rel => exact ⟨y / 128, pre ++ [UInt8.ofNat (y % 128 + 128)], rfl, hs.2.1, by simp; omega, by simpa using hown', hs.2.2, hb'⟩
      case measure => simp [intOf]; omega
    · have hl := put_last hpre (by omega)
      have HL := Lib.hid hl
      clear hl
      go_wp2_with (at_builtin; go_loud (refine wpList_app1 w rfl _ _ 88 rfl w.heap.size 5 i0 (.int .u8 0) 1 Tryd.underlying88 hi hz0 hz1 hz2 rfl _ _ _ rfl hown _ _ rfl rfl (by unfold maxLen; omega) (by omega) (Nat.le_refl _) hb ?_); intro v' w1 hown' hb'; rw [byte_last y (by omega), ← List.map_singleton, ← List.map_append, HL.out] at hown'; obtain ⟨g, cap, rfl, _, _⟩ := slice_of_own hown' (by omega); have k1 := conv_rd (P := Tryd.prog) (own_rd hown') 88 5 9 Tryd.underlying88 Tryd.underlying5 Tryd.underlying9)
      go_ret
      exact ⟨rfl, hb'⟩
end Go.Proofs.YtmjedjhkhjiigaaDoor
namespace Go.Proofs.YtmjedjhkhjiigaaDoor
open Go.RowKit
set_option linter.unusedVariables false
set_option linter.unusedSimpArgs false
/-- What a text is read as. -/
def cutTextL (l : List UInt8) : List UInt8 × Nat × Nat :=
  match cutL l with
  | (x, n, c) => if c ≠ 0 then ([], 0, c) else if 255 < x then ([], 0, 8) else if l.length < n + x then ([], 0, 2) else ((l.drop n).take x, n + x, 0)
theorem cutTextL_eq {l : List UInt8} {x n c : Nat} (h : cutL l = (x, n, c)) : cutTextL l = if c ≠ 0 then ([], 0, c) else if 255 < x then ([], 0, 8) else if l.length < n + x then ([], 0, 2) else ((l.drop n).take x, n + x, 0) := by
  unfold cutTextL; rw [h]
theorem str_extract (l : List UInt8) (i j : Nat) : (str l).extract i j = str ((l.drop i).take (j - i)) := by
  apply ByteArray.ext
  simp [str, ByteArray.data_extract]
theorem str_append (a b : List UInt8) : str a ++ str b = str (a ++ b) := by
  apply ByteArray.ext
  simp [str, ByteArray.data_append]
set_option maxRecDepth 100000 in
theorem refText_at (l : List UInt8) (hlen : l.length ≤ 255) (w : World) :
    Calls Tryd.prog 62 #[.string (str l)] w fun e w' => e = .returned (.string (str (putL l.length ++ l))) ∧ Below w.heap.size w w' := by
  have hsz : (str l).size = l.length := str_size l
  go_enter Tryd.func62, Tryd.ntmps62
  have hpl : (str (putL l.length)).size ≤ 10 := by rw [str_size]; exact (putL_len _).2
  go_wp2_with (go_at_call 60; refine (refPut_any _ l.length rfl ⟨by omega, by omega⟩ _).mono ?_; rintro e w' ⟨rfl, hb⟩)
  go_ret
  refine ⟨?_, hb⟩
  show Ending.returned (.string (str (putL l.length) ++ str l)) = _
  rw [str_append]
end Go.Proofs.YtmjedjhkhjiigaaDoor
