/- Values: how two are to one another. -/
/- Values: which is ahead. Written by wip/tools/gen7e.py. -/
/- Plain arithmetic of layer 1: the document's bytes of a number, as a function of numbers; no Go here. -/
/- Put of package varint: the bytes that it makes are the document's, in memory of its own. -/
/- Cut of package varint: what it reads is what the document says, whatever bytes there are. -/
/- The small functions of layer 1: each comes to what the plain function says. -/
/- The document's cut of a string's bytes: the plain function's answer. -/
/- The document's own answers of layer 1, as walks: each comes to what the plain function says. -/
/- Texts of layer 1. -/
import Derived.Test.YtbdfcgffkonbiaaDoorQST4
import Derived.Test.YtbdfcgffkonbiaaDoorQST2
import Derived.Laws.BitsAllLaws
import Derived.Laws.DeepNot64
import Derived.Test.YtbdfcgffkonbiaaDoorProg
import Derived.WalkKit
import Derived.Lib.AppendStr
import Derived.WalkSpells
import Derived.Laws.AppendOwnNone
namespace Go.Proofs.YtbdfcgffkonbiaaDoor.V7
open Go.RowKit
set_option linter.unusedVariables false
set_option linter.unusedSimpArgs false
def iz (n : Int) : Value := .int .i64 n
/-- The first that is not nothing. -/
def orL : List Int → Int
  | [] => 0
  | x :: l => if x ≠ 0 then x else orL l
end Go.Proofs.YtbdfcgffkonbiaaDoor.V7
namespace Go.Proofs.YtbdfcgffkonbiaaDoor.V7
open Go.RowKit
set_option linter.unusedVariables false
set_option linter.unusedSimpArgs false
theorem cells3 {w : World} {B : Nat} {a0 a1 a2 : Value} {t : TypeId} (h : w.heap[B]? = some (.cells #[a0, a1, a2] t (0, 0))) :
    w.cell? ⟨B, 0, none⟩ = some a0 ∧ w.cell? ⟨B, 1, none⟩ = some a1 ∧ w.cell? ⟨B, 2, none⟩ = some a2 := by
  refine ⟨?_, ?_, ?_⟩
  all_goals simp [World.cell?, h]
def lessB (a b : V) : Bool := mayB a && mayB b && decide (ordV a b < 0)
end Go.Proofs.YtbdfcgffkonbiaaDoor.V7
namespace Go.Proofs.YtbdfcgffkonbiaaDoor
open Go.RowKit
set_option linter.unusedVariables false
set_option linter.unusedSimpArgs false
/-- A number of 64 bits without a sign. -/
def U64 (v : Int) : Prop := 0 ≤ v ∧ v < 18446744073709551616
/-- The bytes of v, at most n + 1 of them. -/
def putF : Nat → Nat → List UInt8
  | 0, v => [UInt8.ofNat v]
  | n + 1, v => if v < 128 then [UInt8.ofNat v] else UInt8.ofNat (v % 128 + 128) :: putF n (v / 128)
def putL (v : Nat) : List UInt8 := putF 9 v
theorem putF_len (n v : Nat) : 1 ≤ (putF n v).length ∧ (putF n v).length ≤ n + 1 := by
  induction n generalizing v with
  | zero => simp [putF]
  | succ n ih =>
    unfold putF
    split
    · simp
    · have := ih (v / 128); simp; omega
theorem putL_len (v : Nat) : 1 ≤ (putL v).length ∧ (putL v).length ≤ 10 := putF_len 9 v
/-- One byte more. -/
theorem put_step {pre : List UInt8} {y n : Nat} (hy : Hid (y * 128 ^ pre.length < 18446744073709551616)) (hp : pre.length ≤ 9) (h : Hid (pre ++ putF (9 - pre.length) y = putL n)) (h128 : 128 ≤ y) :
    pre.length + 1 ≤ 9 ∧ Hid (y / 128 * 128 ^ (pre ++ [UInt8.ofNat (y % 128 + 128)]).length < 18446744073709551616) ∧ Hid ((pre ++ [UInt8.ofNat (y % 128 + 128)]) ++ putF (9 - (pre ++ [UInt8.ofNat (y % 128 + 128)]).length) (y / 128) = putL n) := by
  have hy' := hy.out
  have hp9 : pre.length + 1 ≤ 9 := by
    apply Decidable.byContradiction
    intro hc
    have : pre.length = 9 := by omega
    rw [this] at hy'
    omega
  refine ⟨hp9, ?_, ?_⟩
  · show _ < _
    rw [List.length_append, List.length_singleton, Nat.pow_succ, Nat.mul_comm (128 ^ pre.length), ← Nat.mul_assoc]
    exact Nat.lt_of_le_of_lt (Nat.mul_le_mul_right _ (Nat.div_mul_le_self y 128)) hy'
  · show _ = _
    rw [← h.out, List.append_assoc, List.length_append, List.length_singleton]
    congr 1
    have e : 9 - pre.length = (9 - (pre.length + 1)) + 1 := by omega
    rw [e]
    show _ = putF (9 - (pre.length + 1) + 1) y
    conv => rhs; unfold putF
    rw [if_neg (by omega)]
    rfl
theorem put_last {pre : List UInt8} {y n : Nat} (h : Hid (pre ++ putF (9 - pre.length) y = putL n)) (h128 : y < 128) : pre ++ [UInt8.ofNat y] = putL n := by
  rw [← h.out]
  congr 1
  cases hq : 9 - pre.length with
  | zero => rfl
  | succ k => unfold putF; rw [if_pos h128]
theorem or128 : ∀ n : Nat, n < 256 → bits .or .u8 (n : Int) 128 = ((n % 128 + 128 : Nat) : Int) := by decide +kernel
/-- 'byte(v) | 128' of a number v. -/
theorem byte_more (y : Nat) : Value.int .u8 (bits .or .u8 ((y : Int) % 256) 128) = bv (UInt8.ofNat (y % 128 + 128)) := by
  have e : ((y : Int) % 256) = ((y % 256 : Nat) : Int) := by omega
  rw [e, or128 _ (Nat.mod_lt _ (by decide))]
  have : (UInt8.ofNat (y % 128 + 128)).toNat = y % 128 + 128 := by rw [UInt8.toNat_ofNat']; omega
  rw [bv, this]
  congr 1; omega
theorem byte_last (y : Nat) (h : y < 128) : Value.int .u8 (y : Int) = bv (UInt8.ofNat y) := by
  have : (UInt8.ofNat y).toNat = y := by rw [UInt8.toNat_ofNat']; omega
  rw [bv, this]
/-- What a number is read as: the number, how many bytes, the error. k bytes have been read, they say a. -/
def cutGo : Nat → Nat → List UInt8 → Nat × Nat × Nat
  | _, _, [] => (0, 0, 2)
  | k, a, b :: r => if k = 9 ∧ 1 < b.toNat then (0, 0, 8) else if b.toNat < 128 then (if b.toNat = 0 ∧ 0 < k then (0, 0, 3) else (a + b.toNat * 128 ^ k, k + 1, 0)) else cutGo (k + 1) (a + (b.toNat - 128) * 128 ^ k) r
def cutL (l : List UInt8) : Nat × Nat × Nat := cutGo 0 0 l
/-- A signed number as one without a sign. -/
def zigN (v : Int) : Nat := if 0 ≤ v then 2 * v.toNat else 2 * (-(v + 1)).toNat + 1
def unzig (x : Nat) : Int := if x % 2 = 0 then ((x / 2 : Nat) : Int) else -1 - ((x / 2 : Nat) : Int)
def I64 (v : Int) : Prop := -9223372036854775808 ≤ v ∧ v ≤ 9223372036854775807
theorem zigN_u64 {v : Int} (h : I64 v) : U64 (zigN v) := by
  obtain ⟨h1, h2⟩ := h
  unfold zigN U64
  split <;> omega
theorem xor_ones (a : Nat) (ha : a < 18446744073709551616) : bits .xor .u64 (a : Int) 18446744073709551615 = 18446744073709551615 - (a : Int) := by
  have h := bits_xor_u64_nat a 18446744073709551615 ha (by decide)
  have e : a ^^^ 18446744073709551615 = 18446744073709551615 - a := by
    have h1 : (BitVec.ofNat 64 a ^^^ BitVec.allOnes 64).toNat = (~~~ BitVec.ofNat 64 a).toNat := by rw [BitVec.xor_allOnes]
    rw [BitVec.toNat_xor, BitVec.toNat_not, BitVec.toNat_ofNat, BitVec.toNat_allOnes, Nat.mod_eq_of_lt (by simpa using ha)] at h1
    simpa using h1
  rw [show (18446744073709551615 : Int) = ((18446744073709551615 : Nat) : Int) from rfl, h, e]
  omega
theorem xor_none (a : Nat) (ha : a < 18446744073709551616) : bits .xor .u64 (a : Int) 0 = (a : Int) := by
  have h := bits_xor_u64_nat a 0 ha (by decide)
  simpa using h
theorem zig_bits {v : Int} (h : I64 v) : bits .xor .u64 (IntKind.u64.wrap (IntKind.u64.wrap v * 2)) (IntKind.u64.wrap (v / 9223372036854775808)) = (zigN v : Int) := by
  obtain ⟨h1, h2⟩ := h
  rw [IntKind.wrap_u64, IntKind.wrap_u64, IntKind.wrap_u64]
  unfold zigN
  by_cases h0 : 0 ≤ v
  · rw [if_pos h0, show v / 9223372036854775808 % 18446744073709551616 = 0 from by omega, show v % 18446744073709551616 * 2 % 18446744073709551616 = ((2 * v.toNat : Nat) : Int) from by omega]
    exact xor_none _ (by omega)
  · rw [if_neg h0, show v / 9223372036854775808 % 18446744073709551616 = 18446744073709551615 from by omega, show v % 18446744073709551616 * 2 % 18446744073709551616 = ((18446744073709551615 - (2 * (-(v + 1)).toNat + 1) : Nat) : Int) from by omega]
    rw [xor_ones _ (by omega)]
    omega
/-- The number that bytes say, the first one the least. -/
def val : List UInt8 → Nat
  | [] => 0
  | b :: r => b.toNat % 128 + 128 * val r
end Go.Proofs.YtbdfcgffkonbiaaDoor
namespace Go.Proofs.YtbdfcgffkonbiaaDoor
open Go.RowKit
theorem u8info : (Tryd.prog.info? 5).map (fun i => (i.zero, i.size, i.bytes)) = some (some (.int .u8 0), 1, 1) := by kernel_rfl
set_option maxRecDepth 100000 in
set_option maxHeartbeats 400000 in
theorem put_any (v : Int) (hu : U64 v) (w : World) :
    Calls Tryd.prog 140 #[.int .u64 v] w fun e w' => ∃ v', e = .returned v' ∧ w'.ownsRow w.heap.size 5 1 v' (putL v.toNat).length ((putL v.toNat).map bv) ∧ Below w.heap.size w w' := by
  obtain ⟨i0, hi, hz0, hz1, hz2⟩ := info_parts u8info
  go_enter Tryd.func140, Tryd.ntmps140
  go_wp2_with (at_make; refine wpList_make_own _ rfl _ _ 126 rfl w.heap.size 5 i0 (.int .u8 0) 1 Tryd.underlying126 hi hz0 hz1 .i64 .i64 _ 10 rfl rfl rfl (by rw [hz2]; decide) (by decide) (Nat.le_refl _) ?_; intro w1 hown1 hg1)
  obtain ⟨n, rfl⟩ := Int.eq_ofNat_of_zero_le hu.1
  go_loopw [0, 3] (fun x s wr => ∃ (y : Nat) (pre : List UInt8), x = .int .u64 y ∧ Hid (y * 128 ^ pre.length < 18446744073709551616) ∧ pre.length ≤ 9 ∧ wr.ownsRow w.heap.size 5 1 s pre.length (pre.map bv) ∧ Hid (pre ++ putF (9 - pre.length) y = putL n) ∧ Below w.heap.size w wr)
    (fun x _ _ => (intOf x).toNat)
  case atStart => exact ⟨n, [], rfl, by have := hu.2; show _ < _; simp; omega, by simp, hown1, rfl, (Below.refl _ _).grown hg1 (Nat.le_refl _) (by simp)⟩
  case round =>
    obtain ⟨y, pre, rfl, hy, hp, hown, hpre, hb⟩ := hrel
    by_cases h128 : 128 ≤ (y : Int)
    · go_wp2_with (at_builtin; go_loud (refine wpList_app1 w rfl _ _ 126 rfl w.heap.size 5 i0 (.int .u8 0) 1 Tryd.underlying126 hi hz0 hz1 hz2 rfl _ _ _ rfl hown _ _ rfl rfl (by unfold maxLen; omega) (by omega) (Nat.le_refl _) hb ?_); intro v' w1 hown' hb')
      rw [byte_more] at hown'
      have hs := put_step hy hp hpre (by omega)
      go_roundw
      case rel => exact ⟨y / 128, pre ++ [UInt8.ofNat (y % 128 + 128)], by go_num, hs.2.1, by simp; omega, by simpa using hown', hs.2.2, hb'⟩
      case measure => simp [intOf]; omega
    · have hl := put_last hpre (by omega)
      go_wp2_with (at_builtin; go_loud (refine wpList_app1 w rfl _ _ 126 rfl w.heap.size 5 i0 (.int .u8 0) 1 Tryd.underlying126 hi hz0 hz1 hz2 rfl _ _ _ rfl hown _ _ rfl rfl (by unfold maxLen; omega) (by omega) (Nat.le_refl _) hb ?_); intro v' w1 hown' hb')
      rw [byte_last y (by omega)] at hown'
      go_ret
      exact ⟨v', rfl, by rw [← hl]; simpa using hown', hb'⟩
end Go.Proofs.YtbdfcgffkonbiaaDoor
namespace Go.Proofs.YtbdfcgffkonbiaaDoor
open Go.RowKit
set_option linter.unusedVariables false
set_option linter.unusedSimpArgs false
/-- Three results as a value. -/
def cutV (r : Nat × Nat × Nat) : Value := .tuple #[.int .u64 (r.1 : Int), .int .i64 (r.2.1 : Int), .int .i64 (r.2.2 : Int)]
end Go.Proofs.YtbdfcgffkonbiaaDoor
namespace Go.Proofs.YtbdfcgffkonbiaaDoor
open Go.RowKit
set_option linter.unusedVariables false
set_option linter.unusedSimpArgs false
theorem strCells_str (l : List UInt8) : Lib.strCells (str l) = l.map bv := by simp [Lib.strCells, str]; intros; rfl
/-- Put of a number, its value written out. -/
theorem put_at (v : Int) (m : Nat) (hv : v = (m : Int)) (hu : U64 v) (w : World) :
    Calls Tryd.prog 140 #[.int .u64 v] w fun e w' => ∃ g n cap, e = .returned (.slice (some ⟨g, 0, none⟩) n cap) ∧ n ≤ 10 ∧ Hid (n = (putL m).length) ∧ w'.ownsRow w.heap.size 5 1 (.slice (some ⟨g, 0, none⟩) n cap) n ((putL m).map bv) ∧ Below w.heap.size w w' := by
  refine (put_any v hu w).mono ?_
  rintro e w' ⟨v', rfl, hown, hb⟩
  subst hv
  rw [Int.toNat_natCast] at hown
  have hl := putL_len m
  obtain ⟨g, cap, rfl, _, _⟩ := slice_of_own hown (by omega)
  exact ⟨g, _, cap, rfl, hl.2, rfl, hown, hb⟩
set_option maxRecDepth 100000 in
theorem putInt_any (v : Int) (hu : I64 v) (w : World) :
    Calls Tryd.prog 132 #[.int .i64 v] w fun e w' => ∃ g n cap, e = .returned (.slice (some ⟨g, 0, none⟩) n cap) ∧ n ≤ 10 ∧ Hid (n = (putL (zigN v)).length) ∧ w'.ownsRow w.heap.size 5 1 (.slice (some ⟨g, 0, none⟩) n cap) n ((putL (zigN v)).map bv) ∧ Below w.heap.size w w' := by
  go_enter Tryd.func132, Tryd.ntmps132
  go_wp2_with fail
  rw [zig_bits hu]
  refine (put_at _ (zigN v) rfl (zigN_u64 hu) _).mono ?_
  rintro e w' ⟨g, n, cap, rfl, hn, hl, hown, hb⟩
  go_wp2
  go_ret
  exact ⟨g, n, cap, rfl, hn, hl, hown, hb⟩
set_option maxRecDepth 100000 in
theorem zig_any (v : Int) (hu : I64 v) (w : World) :
    Calls Tryd.prog 94 #[.int .i64 v] w fun e w' => e = .returned (.int .u64 (zigN v)) ∧ w = w' := by
  go_enter Tryd.func94, Tryd.ntmps94
  go_wp2_with fail
  all_goals
    obtain ⟨h1, h2⟩ := hu
    go_ret
    refine ⟨?_, rfl⟩
    unfold zigN
    try unfold wrap64
    simp [IntKind.wrap_u64]
    split <;> omega
def textL (s : List UInt8) : List UInt8 := if s.length ≤ 255 then putL s.length ++ s else []
set_option maxRecDepth 100000 in
theorem putText_any (s : List UInt8) (w : World) (hs : s.length ≤ maxLen) :
    Calls Tryd.prog 133 #[.string (str s)] w fun e w' => ∃ v, e = .returned v ∧ Rd w' v (textL s) ∧ w'.ownsRow w.heap.size 5 1 v (textL s).length ((textL s).map bv) ∧ Below w.heap.size w w' := by
  obtain ⟨i0, hi, hz0, hz1, hz2⟩ := info_parts u8info
  unfold maxLen at hs
  have hz : (str s).size = s.length := str_size s
  by_cases h255 : 255 < s.length
  · have e : textL s = [] := if_neg (by omega)
    have E := Lib.hid e
    clear e
    go_enter Tryd.func133, Tryd.ntmps133
    go_wp2_with fail
    go_ret
    refine ⟨_, rfl, ?_⟩
    rw [E.out]
    exact ⟨rd_nil _, World.ownsRow_nil _ _ _ _, Below.refl _ _⟩
  · have e : textL s = putL s.length ++ s := if_pos (by omega)
    have E := Lib.hid e
    clear e
    go_enter Tryd.func133, Tryd.ntmps133
    go_wp2_with (first
     | (go_at_call 140; go_loud (refine (put_at _ s.length rfl ⟨by omega, by omega⟩ _).mono ?_); rintro e w1 ⟨g, n, cap, rfl, hn, hl, hown, hb⟩)
     | (at_builtin; go_loud (refine Lib.wpList_append_own_string _ rfl _ _ 126 9 rfl w.heap.size 5 i0 Tryd.underlying126 Tryd.underlying9 hi hz0 hz1 hz2 _ _ _ rfl hown _ rfl (by unfold maxLen; omega) (by omega) hb.size ?_); intro v' w2 h1 h2 h3))
    go_ret
    have ho : w2.ownsRow w.heap.size 5 1 v' (textL s).length ((textL s).map bv) := by
      rw [E.out, List.length_append, ← hl.out, List.map_append]
      rw [str_size, strCells_str] at h1
      exact h1
    have hpos : 0 < (textL s).length := by rw [E.out, List.length_append]; have := (putL_len s.length).1; omega
    obtain ⟨g', cap', rfl, _, _⟩ := slice_of_own ho hpos
    exact ⟨_, rfl, own_rd ho, ho, grown_below hb (Nat.le_refl _) hown h2⟩
end Go.Proofs.YtbdfcgffkonbiaaDoor
namespace Go.Proofs.YtbdfcgffkonbiaaDoor
open Go.RowKit
set_option linter.unusedVariables false
set_option linter.unusedSimpArgs false
end Go.Proofs.YtbdfcgffkonbiaaDoor
namespace Go.Proofs.YtbdfcgffkonbiaaDoor
open Go.RowKit
set_option linter.unusedVariables false
set_option linter.unusedSimpArgs false
set_option maxRecDepth 100000 in
set_option maxHeartbeats 400000 in
theorem refPut_any (v : Int) (m : Nat) (hv : v = (m : Int)) (hu : U64 v) (w : World) :
    Calls Tryd.prog 93 #[.int .u64 v] w fun e w' => e = .returned (.string (str (putL m))) ∧ Below w.heap.size w w' := by
  obtain ⟨i0, hi, hz0, hz1, hz2⟩ := info_parts u8info
  subst hv
  go_enter Tryd.func93, Tryd.ntmps93
  go_wp2_with fail
  go_loopw [0, 3] (fun x s wr => ∃ (y : Nat) (pre : List UInt8), x = .int .u64 y ∧ Hid (y * 128 ^ pre.length < 18446744073709551616) ∧ pre.length ≤ 9 ∧ wr.ownsRow w.heap.size 5 1 s pre.length (pre.map bv) ∧ Hid (pre ++ putF (9 - pre.length) y = putL m) ∧ Below w.heap.size w wr)
    (fun x _ _ => (intOf x).toNat)
  case atStart => exact ⟨m, [], rfl, by have := hu.2; show _ < _; simp; omega, by simp, World.ownsRow_nil _ _ _ _, rfl, Below.refl _ _⟩
  case round =>
    obtain ⟨y, pre, rfl, hy, hp, hown, hpre, hb⟩ := hrel
    by_cases h128 : 128 ≤ (y : Int)
    · go_wp2_with (at_builtin; go_loud (refine wpList_app1 w rfl _ _ 126 rfl w.heap.size 5 i0 (.int .u8 0) 1 Tryd.underlying126 hi hz0 hz1 hz2 rfl _ _ _ rfl hown _ _ rfl rfl (by unfold maxLen; omega) (by omega) (Nat.le_refl _) hb ?_); intro v' w1 hown' hb')
      have ew : IntKind.u64.wrap ((y : Int) / 128) = ((y / 128 : Nat) : Int) := by
        have := hy.out
        have : y * 1 ≤ y * 128 ^ pre.length := Nat.mul_le_mul_left _ (Nat.pow_pos (by decide))
        rw [IntKind.wrap_u64]; omega
      have eb : Value.int .u8 ((y : Int) % 128 + 128) = bv (UInt8.ofNat (y % 128 + 128)) := by rw [← byte_more]; congr 1; have := or128 (y % 256) (Nat.mod_lt _ (by decide)); rw [show ((y : Int) % 256) = ((y % 256 : Nat) : Int) from by omega, this]; omega
      rw [eb] at hown'
      rw [ew]
      have hs := put_step hy hp hpre (by omega)
      go_roundw
      case rel => exact ⟨y / 128, pre ++ [UInt8.ofNat (y % 128 + 128)], rfl, hs.2.1, by simp; omega, by simpa using hown', hs.2.2, hb'⟩
      case measure => simp [intOf]; omega
    · have hl := put_last hpre (by omega)
      have HL := Lib.hid hl
      clear hl
      go_wp2_with (at_builtin; go_loud (refine wpList_app1 w rfl _ _ 126 rfl w.heap.size 5 i0 (.int .u8 0) 1 Tryd.underlying126 hi hz0 hz1 hz2 rfl _ _ _ rfl hown _ _ rfl rfl (by unfold maxLen; omega) (by omega) (Nat.le_refl _) hb ?_); intro v' w1 hown' hb'; rw [byte_last y (by omega), ← List.map_singleton, ← List.map_append, HL.out] at hown'; obtain ⟨g, cap, rfl, _, _⟩ := slice_of_own hown' (by omega); have k1 := conv_rd (P := Tryd.prog) (own_rd hown') 126 5 9 Tryd.underlying126 Tryd.underlying5 Tryd.underlying9)
      go_ret
      exact ⟨rfl, hb'⟩
end Go.Proofs.YtbdfcgffkonbiaaDoor
namespace Go.Proofs.YtbdfcgffkonbiaaDoor
open Go.RowKit
set_option linter.unusedVariables false
set_option linter.unusedSimpArgs false
/-- What a text is read as. -/
def cutTextL (l : List UInt8) : List UInt8 × Nat × Nat :=
  match cutL l with
  | (x, n, c) => if c ≠ 0 then ([], 0, c) else if 255 < x then ([], 0, 8) else if l.length < n + x then ([], 0, 2) else ((l.drop n).take x, n + x, 0)
theorem str_append (a b : List UInt8) : str a ++ str b = str (a ++ b) := by
  apply ByteArray.ext
  simp [str, ByteArray.data_append]
set_option maxRecDepth 100000 in
theorem refText_at (l : List UInt8) (hlen : l.length ≤ 255) (w : World) :
    Calls Tryd.prog 95 #[.string (str l)] w fun e w' => e = .returned (.string (str (putL l.length ++ l))) ∧ Below w.heap.size w w' := by
  have hsz : (str l).size = l.length := str_size l
  go_enter Tryd.func95, Tryd.ntmps95
  have hpl : (str (putL l.length)).size ≤ 10 := by rw [str_size]; exact (putL_len _).2
  go_wp2_with (go_at_call 93; refine (refPut_any _ l.length rfl ⟨by omega, by omega⟩ _).mono ?_; rintro e w' ⟨rfl, hb⟩)
  go_ret
  refine ⟨?_, hb⟩
  show Ending.returned (.string (str (putL l.length) ++ str l)) = _
  rw [str_append]
end Go.Proofs.YtbdfcgffkonbiaaDoor
