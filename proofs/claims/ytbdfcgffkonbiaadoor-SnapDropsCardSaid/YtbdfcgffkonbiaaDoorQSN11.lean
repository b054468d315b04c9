/- Put of package varint: the bytes that it makes are the document's, in memory of its own. -/
/- Cut of package varint: what it reads is what the document says, whatever bytes there are. -/
/- The small functions of layer 1: each comes to what the plain function says. -/
/- The document's cut of a string's bytes: the plain function's answer. -/
/- The document's own answers of layer 1, as walks: each comes to what the plain function says. -/
/- Texts of layer 1. -/
/- Values: their bytes. Written by wip/tools/gen7k.py. -/
import Derived.Test.YtbdfcgffkonbiaaDoorProg
import Derived.Test.YtbdfcgffkonbiaaDoorQSN10
import Derived.WalkKit
import Derived.Lib.AppendStr
import Derived.WalkSpells
import Derived.Laws.AppendOwnNone
import Derived.Test.YtbdfcgffkonbiaaDoorQSN9
namespace Go.Proofs.YtbdfcgffkonbiaaDoor
open Go.RowKit
theorem u8info : (Tryd.prog.info? 5).map (fun i => (i.zero, i.size, i.bytes)) = some (some (.int .u8 0), 1, 1) := by kernel_rfl
set_option maxRecDepth 100000 in
set_option maxHeartbeats 400000 in
theorem put_any (v : Int) (hu : U64 v) (w : World) :
    Calls Tryd.prog 140 #[.int .u64 v] w fun e w' => ∃ v', e = .returned v' ∧ w'.ownsRow w.heap.size 5 1 v' (putL v.toNat).length ((putL v.toNat).map bv) ∧ Below w.heap.size w w' := by
  obtain ⟨i0, hi, hz0, hz1, hz2⟩ := info_parts u8info
  go_enter Tryd.func140, Tryd.ntmps140
  go_wp2_with (at_make; refine wpList_make_own _ rfl _ _ 126 rfl w.heap.size 5 i0 (.int .u8 0) 1 Tryd.underlying126 hi hz0 hz1 .i64 .i64 _ 10 rfl rfl rfl (by rw [hz2]; decide) (by decide) (Nat.le_refl _) ?_; intro w1 hown1 hg1)
  obtain ⟨n, rfl⟩ := Int.eq_ofNat_of_zero_le hu.1
  go_loopw [0, 3] (fun x s wr => ∃ (y : Nat) (pre : List UInt8), x = .int .u64 y ∧ Hid (y * 128 ^ pre.length < 18446744073709551616) ∧ pre.length ≤ 9 ∧ wr.ownsRow w.heap.size 5 1 s pre.length (pre.map bv) ∧ Hid (pre ++ putF (9 - pre.length) y = putL n) ∧ Below w.heap.size w wr)
    (fun x _ _ => (intOf x).toNat)
  case atStart => exact ⟨n, [], rfl, by have := hu.2; show _ < _; simp; omega, by simp, hown1, rfl, (Below.refl _ _).grown hg1 (Nat.le_refl _) (by simp)⟩
  case round =>
    obtain ⟨y, pre, rfl, hy, hp, hown, hpre, hb⟩ := hrel
    by_cases h128 : 128 ≤ (y : Int)
    · go_wp2_with (at_builtin; go_loud (refine wpList_app1 w rfl _ _ 126 rfl w.heap.size 5 i0 (.int .u8 0) 1 Tryd.underlying126 hi hz0 hz1 hz2 rfl _ _ _ rfl hown _ _ rfl rfl (by unfold maxLen; omega) (by omega) (Nat.le_refl _) hb ?_); intro v' w1 hown' hb')
      rw [byte_more] at hown'
      have hs := put_step hy hp hpre (by omega)
      go_roundw
      case rel => exact ⟨y / 128, pre ++ [UInt8.ofNat (y % 128 + 128)], by go_num, hs.2.1, by simp; omega, by simpa using hown', hs.2.2, hb'⟩
      case measure => simp [intOf]; omega
    · have hl := put_last hpre (by omega)
      go_wp2_with (at_builtin; go_loud (refine wpList_app1 w rfl _ _ 126 rfl w.heap.size 5 i0 (.int .u8 0) 1 Tryd.underlying126 hi hz0 hz1 hz2 rfl _ _ _ rfl hown _ _ rfl rfl (by unfold maxLen; omega) (by omega) (Nat.le_refl _) hb ?_); intro v' w1 hown' hb')
      rw [byte_last y (by omega)] at hown'
      go_ret
      exact ⟨v', rfl, by rw [← hl]; simpa using hown', hb'⟩
end Go.Proofs.YtbdfcgffkonbiaaDoor
namespace Go.Proofs.YtbdfcgffkonbiaaDoor
open Go.RowKit
set_option linter.unusedVariables false
set_option linter.unusedSimpArgs false
/-- Three results as a value. -/
def cutV (r : Nat × Nat × Nat) : Value := .tuple #[.int .u64 (r.1 : Int), .int .i64 (r.2.1 : Int), .int .i64 (r.2.2 : Int)]
end Go.Proofs.YtbdfcgffkonbiaaDoor
namespace Go.Proofs.YtbdfcgffkonbiaaDoor
open Go.RowKit
set_option linter.unusedVariables false
set_option linter.unusedSimpArgs false
theorem i64_of_wf {x : Int} (h : (Lit.int .i64 x).wf = true) : I64 x := by
  simp [Lit.wf, IntKind.min, IntKind.max, IntKind.signed, IntKind.bits] at h
  exact ⟨by omega, by omega⟩
theorem u64_of_wf {x : Int} (h : (Lit.int .u64 x).wf = true) : U64 x := by
  simp [Lit.wf, IntKind.min, IntKind.max, IntKind.signed, IntKind.bits] at h
  exact ⟨by omega, by omega⟩
theorem strCells_str (l : List UInt8) : Lib.strCells (str l) = l.map bv := by simp [Lib.strCells, str]; intros; rfl
/-- Put of a number, its value written out. -/
theorem put_at (v : Int) (m : Nat) (hv : v = (m : Int)) (hu : U64 v) (w : World) :
    Calls Tryd.prog 140 #[.int .u64 v] w fun e w' => ∃ g n cap, e = .returned (.slice (some ⟨g, 0, none⟩) n cap) ∧ n ≤ 10 ∧ Hid (n = (putL m).length) ∧ w'.ownsRow w.heap.size 5 1 (.slice (some ⟨g, 0, none⟩) n cap) n ((putL m).map bv) ∧ Below w.heap.size w w' := by
  refine (put_any v hu w).mono ?_
  rintro e w' ⟨v', rfl, hown, hb⟩
  subst hv
  rw [Int.toNat_natCast] at hown
  have hl := putL_len m
  obtain ⟨g, cap, rfl, _, _⟩ := slice_of_own hown (by omega)
  exact ⟨g, _, cap, rfl, hl.2, rfl, hown, hb⟩
set_option maxRecDepth 100000 in
theorem putInt_any (v : Int) (hu : I64 v) (w : World) :
    Calls Tryd.prog 132 #[.int .i64 v] w fun e w' => ∃ g n cap, e = .returned (.slice (some ⟨g, 0, none⟩) n cap) ∧ n ≤ 10 ∧ Hid (n = (putL (zigN v)).length) ∧ w'.ownsRow w.heap.size 5 1 (.slice (some ⟨g, 0, none⟩) n cap) n ((putL (zigN v)).map bv) ∧ Below w.heap.size w w' := by
  go_enter Tryd.func132, Tryd.ntmps132
  go_wp2_with fail
  rw [zig_bits hu]
  refine (put_at _ (zigN v) rfl (zigN_u64 hu) _).mono ?_
  rintro e w' ⟨g, n, cap, rfl, hn, hl, hown, hb⟩
  go_wp2
  go_ret
  exact ⟨g, n, cap, rfl, hn, hl, hown, hb⟩
set_option maxRecDepth 100000 in
theorem zig_any (v : Int) (hu : I64 v) (w : World) :
    Calls Tryd.prog 94 #[.int .i64 v] w fun e w' => e = .returned (.int .u64 (zigN v)) ∧ w = w' := by
  go_enter Tryd.func94, Tryd.ntmps94
  go_wp2_with fail
  all_goals
    obtain ⟨h1, h2⟩ := hu
    go_ret
    refine ⟨?_, rfl⟩
    unfold zigN
    try unfold wrap64
    simp [IntKind.wrap_u64]
    split <;> omega
def textL (s : List UInt8) : List UInt8 := if s.length ≤ 255 then putL s.length ++ s else []
set_option maxRecDepth 100000 in
theorem putText_any (s : List UInt8) (w : World) (hs : s.length ≤ maxLen) :
    Calls Tryd.prog 133 #[.string (str s)] w fun e w' => ∃ v, e = .returned v ∧ Rd w' v (textL s) ∧ w'.ownsRow w.heap.size 5 1 v (textL s).length ((textL s).map bv) ∧ Below w.heap.size w w' := by
  obtain ⟨i0, hi, hz0, hz1, hz2⟩ := info_parts u8info
  unfold maxLen at hs
  have hz : (str s).size = s.length := str_size s
  by_cases h255 : 255 < s.length
  · have e : textL s = [] := if_neg (by omega)
    have E := Lib.hid e
    clear e
    go_enter Tryd.func133, Tryd.ntmps133
    go_wp2_with fail
    go_ret
    refine ⟨_, rfl, ?_⟩
    rw [E.out]
    exact ⟨rd_nil _, World.ownsRow_nil _ _ _ _, Below.refl _ _⟩
  · have e : textL s = putL s.length ++ s := if_pos (by omega)
    have E := Lib.hid e
    clear e
    go_enter Tryd.func133, Tryd.ntmps133
    go_wp2_with (first
     | (go_at_call 140; go_loud (refine (put_at _ s.length rfl ⟨by omega, by omega⟩ _).mono ?_); rintro e w1 ⟨g, n, cap, rfl, hn, hl, hown, hb⟩)
     | (at_builtin; go_loud (refine Lib.wpList_append_own_string _ rfl _ _ 126 9 rfl w.heap.size 5 i0 Tryd.underlying126 Tryd.underlying9 hi hz0 hz1 hz2 _ _ _ rfl hown _ rfl (by unfold maxLen; omega) (by omega) hb.size ?_); intro v' w2 h1 h2 h3))
    go_ret
    have ho : w2.ownsRow w.heap.size 5 1 v' (textL s).length ((textL s).map bv) := by
      rw [E.out, List.length_append, ← hl.out, List.map_append]
      rw [str_size, strCells_str] at h1
      exact h1
    have hpos : 0 < (textL s).length := by rw [E.out, List.length_append]; have := (putL_len s.length).1; omega
    obtain ⟨g', cap', rfl, _, _⟩ := slice_of_own ho hpos
    exact ⟨_, rfl, own_rd ho, ho, grown_below hb (Nat.le_refl _) hown h2⟩
end Go.Proofs.YtbdfcgffkonbiaaDoor
namespace Go.Proofs.YtbdfcgffkonbiaaDoor
open Go.RowKit
set_option linter.unusedVariables false
set_option linter.unusedSimpArgs false
theorem str_byte (l : List UInt8) (k : Nat) (h : k < (str l).size) : (str l)[k]'h = l.getD k 0 := by
  have h' : k < l.length := by rwa [str_size] at h
  show l.toArray[k] = _
  simp [List.getD, h']
end Go.Proofs.YtbdfcgffkonbiaaDoor
namespace Go.Proofs.YtbdfcgffkonbiaaDoor
open Go.RowKit
set_option linter.unusedVariables false
set_option linter.unusedSimpArgs false
set_option maxRecDepth 100000 in
set_option maxHeartbeats 400000 in
theorem refPut_any (v : Int) (m : Nat) (hv : v = (m : Int)) (hu : U64 v) (w : World) :
    Calls Tryd.prog 93 #[.int .u64 v] w fun e w' => e = .returned (.string (str (putL m))) ∧ Below w.heap.size w w' := by
  obtain ⟨i0, hi, hz0, hz1, hz2⟩ := info_parts u8info
  subst hv
  go_enter Tryd.func93, Tryd.ntmps93
  go_wp2_with fail
  go_loopw [0, 3] (fun x s wr => ∃ (y : Nat) (pre : List UInt8), x = .int .u64 y ∧ Hid (y * 128 ^ pre.length < 18446744073709551616) ∧ pre.length ≤ 9 ∧ wr.ownsRow w.heap.size 5 1 s pre.length (pre.map bv) ∧ Hid (pre ++ putF (9 - pre.length) y = putL m) ∧ Below w.heap.size w wr)
    (fun x _ _ => (intOf x).toNat)
  case atStart => exact ⟨m, [], rfl, by have := hu.2; show _ < _; simp; omega, by simp, World.ownsRow_nil _ _ _ _, rfl, Below.refl _ _⟩
  case round =>
    obtain ⟨y, pre, rfl, hy, hp, hown, hpre, hb⟩ := hrel
    by_cases h128 : 128 ≤ (y : Int)
    · go_wp2_with (at_builtin; go_loud (refine wpList_app1 w rfl _ _ 126 rfl w.heap.size 5 i0 (.int .u8 0) 1 Tryd.underlying126 hi hz0 hz1 hz2 rfl _ _ _ rfl hown _ _ rfl rfl (by unfold maxLen; omega) (by omega) (Nat.le_refl _) hb ?_); intro v' w1 hown' hb')
      have ew : IntKind.u64.wrap ((y : Int) / 128) = ((y / 128 : Nat) : Int) := by
        have := hy.out
        have : y * 1 ≤ y * 128 ^ pre.length := Nat.mul_le_mul_left _ (Nat.pow_pos (by decide))
        rw [IntKind.wrap_u64]; omega
      have eb : Value.int .u8 ((y : Int) % 128 + 128) = bv (UInt8.ofNat (y % 128 + 128)) := by rw [← byte_more]; congr 1; have := or128 (y % 256) (Nat.mod_lt _ (by decide)); rw [show ((y : Int) % 256) = ((y % 256 : Nat) : Int) from by omega, this]; omega
      rw [eb] at hown'
      rw [ew]
      have hs := put_step hy hp hpre (by omega)
      go_roundw
      case rel => exact ⟨y / 128, pre ++ [UInt8.ofNat (y % 128 + 128)], rfl, hs.2.1, by simp; omega, by simpa using hown', hs.2.2, hb'⟩
      case measure => simp [intOf]; omega
    · have hl := put_last hpre (by omega)
      have HL := Lib.hid hl
      clear hl
      go_wp2_with (at_builtin; go_loud (refine wpList_app1 w rfl _ _ 126 rfl w.heap.size 5 i0 (.int .u8 0) 1 Tryd.underlying126 hi hz0 hz1 hz2 rfl _ _ _ rfl hown _ _ rfl rfl (by unfold maxLen; omega) (by omega) (Nat.le_refl _) hb ?_); intro v' w1 hown' hb'; rw [byte_last y (by omega), ← List.map_singleton, ← List.map_append, HL.out] at hown'; obtain ⟨g, cap, rfl, _, _⟩ := slice_of_own hown' (by omega); have k1 := conv_rd (P := Tryd.prog) (own_rd hown') 126 5 9 Tryd.underlying126 Tryd.underlying5 Tryd.underlying9)
      go_ret
      exact ⟨rfl, hb'⟩
end Go.Proofs.YtbdfcgffkonbiaaDoor
namespace Go.Proofs.YtbdfcgffkonbiaaDoor
open Go.RowKit
set_option linter.unusedVariables false
set_option linter.unusedSimpArgs false
/-- What a text is read as. -/
def cutTextL (l : List UInt8) : List UInt8 × Nat × Nat :=
  match cutL l with
  | (x, n, c) => if c ≠ 0 then ([], 0, c) else if 255 < x then ([], 0, 8) else if l.length < n + x then ([], 0, 2) else ((l.drop n).take x, n + x, 0)
theorem cutTextL_eq {l : List UInt8} {x n c : Nat} (h : cutL l = (x, n, c)) : cutTextL l = if c ≠ 0 then ([], 0, c) else if 255 < x then ([], 0, 8) else if l.length < n + x then ([], 0, 2) else ((l.drop n).take x, n + x, 0) := by
  unfold cutTextL; rw [h]
theorem str_extract (l : List UInt8) (i j : Nat) : (str l).extract i j = str ((l.drop i).take (j - i)) := by
  apply ByteArray.ext
  simp [str, ByteArray.data_extract]
theorem str_append (a b : List UInt8) : str a ++ str b = str (a ++ b) := by
  apply ByteArray.ext
  simp [str, ByteArray.data_append]
set_option maxRecDepth 100000 in
theorem refText_at (l : List UInt8) (hlen : l.length ≤ 255) (w : World) :
    Calls Tryd.prog 95 #[.string (str l)] w fun e w' => e = .returned (.string (str (putL l.length ++ l))) ∧ Below w.heap.size w w' := by
  have hsz : (str l).size = l.length := str_size l
  go_enter Tryd.func95, Tryd.ntmps95
  have hpl : (str (putL l.length)).size ≤ 10 := by rw [str_size]; exact (putL_len _).2
  go_wp2_with (go_at_call 93; refine (refPut_any _ l.length rfl ⟨by omega, by omega⟩ _).mono ?_; rintro e w' ⟨rfl, hb⟩)
  go_ret
  refine ⟨?_, hb⟩
  show Ending.returned (.string (str (putL l.length) ++ str l)) = _
  rw [str_append]
end Go.Proofs.YtbdfcgffkonbiaaDoor
namespace Go.Proofs.YtbdfcgffkonbiaaDoor.V7
open Go Go.RowKit
set_option linter.unusedVariables false
set_option linter.unusedSimpArgs false
/-- A value's bytes; none, if it may not be. -/
def encL (a : V) : List UInt8 := if mayB a = false then [] else if a.k = 1 then [1, if a.i = 0 then 0 else 1] else if a.k = 2 then 2 :: putL (zigN a.i) else if a.k = 3 then 3 :: textL a.s else [0]
def EncR (w : World) (l : List UInt8) (e : Ending) (w' : World) : Prop := ∃ v, e = .returned v ∧ Rd w' v l ∧ w'.ownsRow w.heap.size 5 1 v l.length (l.map bv) ∧ Below w.heap.size w w'
theorem encR_of {w w' : World} {v : Value} {l : List UInt8} (ho : w'.ownsRow w.heap.size 5 1 v l.length (l.map bv)) (hl : 0 < l.length) (hb : Below w.heap.size w w') : EncR w l (.returned v) w' := by
  obtain ⟨g, cap, rfl, _, _⟩ := slice_of_own ho hl
  exact ⟨_, rfl, own_rd ho, ho, hb⟩
theorem own_below {w w' : World} {b : Nat} {e : TypeId} {size : Nat} {v : Value} {n : Nat} {xs : List Value} (h : w.ownsRow b e size v n xs) (hb : Below w.heap.size w w') : w'.ownsRow b e size v n xs := by
  refine ⟨h.1, ?_⟩
  rcases h.2 with h1 | ⟨g, cap, cur, rfl, h2, h3, h4⟩
  · exact .inl h1
  · exact .inr ⟨g, cap, cur, rfl, h2, (hb.block g (lt_of_block h3)).trans h3, h4⟩
theorem textL_len (s : List UInt8) (h : s.length ≤ 64) : (textL s).length ≤ 74 := by
  unfold textL
  rw [if_pos (by omega), List.length_append]
  have := (putL_len s.length).2
  omega
set_option maxRecDepth 100000 in
set_option maxHeartbeats 1000000 in
theorem encode_any (k i : Int) (s : List UInt8) (w : World) (hs : s.length ≤ maxLen) (hI : I64 i) :
    Calls Tryd.prog 113 #[.agg #[.int .i64 k, .int .i64 i, .string (str s)]] w (EncR w (encL ⟨k, i, s⟩)) := by
  obtain ⟨i0, hi, hz0, hz1, hz2⟩ := info_parts u8info
  have M := fun w => may_any k i s w hs
  cases hm : mayB ⟨k, i, s⟩ with
  | false =>
    have e : encL ⟨k, i, s⟩ = [] := by unfold encL; rw [if_pos hm]
    rw [e]
    rw [hm] at M
    clear e hm hs hI
    obtain ⟨q1, bel⟩ : (w.alloc (.cells #[.int .i64 k, .int .i64 i, .string (str s)] 43)).heap[w.heap.size]? = some (.cells #[.int .i64 k, .int .i64 i, .string (str s)] 43) ∧ Below w.heap.size w (w.alloc (.cells #[.int .i64 k, .int .i64 i, .string (str s)] 43)) := ⟨heap_alloc_new _ _, (Below.refl _ _).alloc (Nat.le_refl _) _⟩
    go_enter Tryd.func113, Tryd.ntmps113
    go_wp2_with fail
    refine (M _).mono ?_
    rintro e w1 ⟨rfl, g⟩
    replace q1 := (g.block _ (lt_of_block q1)).trans q1
    replace bel := chain bel g
    clear g
    obtain ⟨c0, c1, c2⟩ := cells3 q1
    have ql := lt_of_block q1
    go_wp2_with fail
    go_ret
    exact ⟨_, rfl, rd_nil _, World.ownsRow_nil _ _ _ _, bel⟩
  | true =>
    have hc := hm
    simp only [mayB, decide_eq_true_eq] at hc
    rw [hm] at M
    rcases hc with ⟨rfl, rfl, rfl⟩ | ⟨rfl, h2, rfl⟩ | ⟨rfl, rfl⟩ | ⟨rfl, rfl, h3⟩
    · have e : encL ⟨0, 0, []⟩ = [0] := by decide
      rw [e]
      clear e hm hs hI
      obtain ⟨q1, bel⟩ : (w.alloc (.cells #[.int .i64 0, .int .i64 0, .string (str [])] 43)).heap[w.heap.size]? = some (.cells #[.int .i64 0, .int .i64 0, .string (str [])] 43) ∧ Below w.heap.size w (w.alloc (.cells #[.int .i64 0, .int .i64 0, .string (str [])] 43)) := ⟨heap_alloc_new _ _, (Below.refl _ _).alloc (Nat.le_refl _) _⟩
      go_enter Tryd.func113, Tryd.ntmps113
      go_wp2_with fail
      refine (M _).mono ?_
      rintro e w1 ⟨rfl, g⟩
      replace q1 := (g.block _ (lt_of_block q1)).trans q1
      replace bel := chain bel g
      clear g
      obtain ⟨c0, c1, c2⟩ := cells3 q1
      have ql := lt_of_block q1
      have ho : (w1.alloc (.cells #[.int .u8 0] 5)).ownsRow w.heap.size 5 1 (.slice (some ⟨w1.heap.size, 0, none⟩) 1 1) 1 [.int .u8 0] := World.ownsRow_lit w1 #[.int .u8 0] 1 bel.size (by decide) rfl
      have hb1 : Below w.heap.size w (w1.alloc (.cells #[.int .u8 0] 5)) := bel.alloc bel.size _
      go_wp2_with fail
      go_ret
      exact encR_of (l := [0]) ho (by decide) hb1
    · rcases h2 with rfl | rfl
      · have e : encL ⟨1, 0, []⟩ = [1, 0] := by decide
        rw [e]
        clear e hm hs hI
        obtain ⟨q1, bel⟩ : (w.alloc (.cells #[.int .i64 1, .int .i64 0, .string (str [])] 43)).heap[w.heap.size]? = some (.cells #[.int .i64 1, .int .i64 0, .string (str [])] 43) ∧ Below w.heap.size w (w.alloc (.cells #[.int .i64 1, .int .i64 0, .string (str [])] 43)) := ⟨heap_alloc_new _ _, (Below.refl _ _).alloc (Nat.le_refl _) _⟩
        go_enter Tryd.func113, Tryd.ntmps113
        go_wp2_with fail
        refine (M _).mono ?_
        rintro e w1 ⟨rfl, g⟩
        replace q1 := (g.block _ (lt_of_block q1)).trans q1
        replace bel := chain bel g
        clear g
        obtain ⟨c0, c1, c2⟩ := cells3 q1
        have ql := lt_of_block q1
        have ho : (w1.alloc (.cells #[.int .u8 1] 5)).ownsRow w.heap.size 5 1 (.slice (some ⟨w1.heap.size, 0, none⟩) 1 1) 1 [.int .u8 1] := World.ownsRow_lit w1 #[.int .u8 1] 1 bel.size (by decide) rfl
        have hb1 : Below w.heap.size w (w1.alloc (.cells #[.int .u8 1] 5)) := bel.alloc bel.size _
        go_wp2_with (at_builtin; go_loud (refine wpList_app1 w rfl _ _ 126 rfl w.heap.size 5 i0 (.int .u8 0) 1 Tryd.underlying126 hi hz0 hz1 hz2 rfl _ _ _ rfl ho _ _ (by rw [World.size_alloc]; rfl) rfl (by decide) (by decide) (Nat.le_refl _) hb1 ?_); intro v' w2 o2 b2)
        go_ret
        exact encR_of (l := [1, 0]) o2 (by decide) b2
      · have e : encL ⟨1, 1, []⟩ = [1, 1] := by decide
        rw [e]
        clear e hm hs hI
        obtain ⟨q1, bel⟩ : (w.alloc (.cells #[.int .i64 1, .int .i64 1, .string (str [])] 43)).heap[w.heap.size]? = some (.cells #[.int .i64 1, .int .i64 1, .string (str [])] 43) ∧ Below w.heap.size w (w.alloc (.cells #[.int .i64 1, .int .i64 1, .string (str [])] 43)) := ⟨heap_alloc_new _ _, (Below.refl _ _).alloc (Nat.le_refl _) _⟩
        go_enter Tryd.func113, Tryd.ntmps113
        go_wp2_with fail
        refine (M _).mono ?_
        rintro e w1 ⟨rfl, g⟩
        replace q1 := (g.block _ (lt_of_block q1)).trans q1
        replace bel := chain bel g
        clear g
        obtain ⟨c0, c1, c2⟩ := cells3 q1
        have ql := lt_of_block q1
        have ho : (w1.alloc (.cells #[.int .u8 1] 5)).ownsRow w.heap.size 5 1 (.slice (some ⟨w1.heap.size, 0, none⟩) 1 1) 1 [.int .u8 1] := World.ownsRow_lit w1 #[.int .u8 1] 1 bel.size (by decide) rfl
        have hb1 : Below w.heap.size w (w1.alloc (.cells #[.int .u8 1] 5)) := bel.alloc bel.size _
        go_wp2_with (at_builtin; go_loud (refine wpList_app1 w rfl _ _ 126 rfl w.heap.size 5 i0 (.int .u8 0) 1 Tryd.underlying126 hi hz0 hz1 hz2 rfl _ _ _ rfl ho _ _ (by rw [World.size_alloc]; rfl) rfl (by decide) (by decide) (Nat.le_refl _) hb1 ?_); intro v' w2 o2 b2)
        go_ret
        exact encR_of (l := [1, 1]) o2 (by decide) b2
    · have e : encL ⟨2, i, []⟩ = 2 :: putL (zigN i) := by unfold encL; rw [if_neg (by rw [hm]; simp)]; rfl
      rw [e]
      clear e hm hs
      obtain ⟨q1, bel⟩ : (w.alloc (.cells #[.int .i64 2, .int .i64 i, .string (str [])] 43)).heap[w.heap.size]? = some (.cells #[.int .i64 2, .int .i64 i, .string (str [])] 43) ∧ Below w.heap.size w (w.alloc (.cells #[.int .i64 2, .int .i64 i, .string (str [])] 43)) := ⟨heap_alloc_new _ _, (Below.refl _ _).alloc (Nat.le_refl _) _⟩
      go_enter Tryd.func113, Tryd.ntmps113
      go_wp2_with fail
      refine (M _).mono ?_
      rintro e w1 ⟨rfl, g⟩
      replace q1 := (g.block _ (lt_of_block q1)).trans q1
      replace bel := chain bel g
      clear g
      obtain ⟨c0, c1, c2⟩ := cells3 q1
      have ql := lt_of_block q1
      have ho : (w1.alloc (.cells #[.int .u8 2] 5)).ownsRow w.heap.size 5 1 (.slice (some ⟨w1.heap.size, 0, none⟩) 1 1) 1 [.int .u8 2] := World.ownsRow_lit w1 #[.int .u8 2] 1 bel.size (by decide) rfl
      have hb1 : Below w.heap.size w (w1.alloc (.cells #[.int .u8 2] 5)) := bel.alloc bel.size _
      go_wp2_with fail
      refine (putInt_any i hI _).mono ?_
      rintro e w2 ⟨g2, n2, cap2, rfl, hn2, hl2, o2, b2⟩
      have r2 : Rd w2 (.slice (some ⟨g2, 0, none⟩) n2 cap2) (putL (zigN i)) := own_rd o2
      have ho2 := own_below ho b2
      have hb2 := chain hb1 b2
      have hl3 := (putL_len (zigN i)).2
      go_wp2_with (at_builtin; go_loud (refine wpList_app_rd w rfl _ _ 126 rfl w.heap.size 5 i0 (.int .u8 0) 1 Tryd.underlying126 hi hz0 hz1 hz2 rfl _ _ _ rfl ho2 _ _ rfl r2 (by unfold maxLen; omega) (by omega) (Nat.le_refl _) hb2 ?_); intro v' w3 o3 b3)
      go_ret
      refine encR_of (l := 2 :: putL (zigN i)) ?_ (by simp) b3
      rw [List.length_cons, Nat.add_comm]
      exact o3
    · have e : encL ⟨3, 0, s⟩ = 3 :: textL s := by unfold encL; rw [if_neg (by rw [hm]; simp)]; rfl
      rw [e]
      have hl3 := textL_len s h3
      clear e hm hs hI
      obtain ⟨q1, bel⟩ : (w.alloc (.cells #[.int .i64 3, .int .i64 0, .string (str s)] 43)).heap[w.heap.size]? = some (.cells #[.int .i64 3, .int .i64 0, .string (str s)] 43) ∧ Below w.heap.size w (w.alloc (.cells #[.int .i64 3, .int .i64 0, .string (str s)] 43)) := ⟨heap_alloc_new _ _, (Below.refl _ _).alloc (Nat.le_refl _) _⟩
      go_enter Tryd.func113, Tryd.ntmps113
      go_wp2_with fail
      refine (M _).mono ?_
      rintro e w1 ⟨rfl, g⟩
      replace q1 := (g.block _ (lt_of_block q1)).trans q1
      replace bel := chain bel g
      clear g
      obtain ⟨c0, c1, c2⟩ := cells3 q1
      have ql := lt_of_block q1
      have ho : (w1.alloc (.cells #[.int .u8 3] 5)).ownsRow w.heap.size 5 1 (.slice (some ⟨w1.heap.size, 0, none⟩) 1 1) 1 [.int .u8 3] := World.ownsRow_lit w1 #[.int .u8 3] 1 bel.size (by decide) rfl
      have hb1 : Below w.heap.size w (w1.alloc (.cells #[.int .u8 3] 5)) := bel.alloc bel.size _
      go_wp2_with fail
      refine (putText_any s _ (by unfold maxLen; omega)).mono ?_
      rintro e w2 ⟨v2, rfl, r2, o2, b2⟩
      have ho2 := own_below ho b2
      have hb2 := chain hb1 b2
      go_wp2_with (at_builtin; go_loud (refine wpList_app_rd w rfl _ _ 126 rfl w.heap.size 5 i0 (.int .u8 0) 1 Tryd.underlying126 hi hz0 hz1 hz2 rfl _ _ _ rfl ho2 _ _ rfl r2 (by unfold maxLen; omega) (by omega) (Nat.le_refl _) hb2 ?_); intro v' w3 o3 b3)
      go_ret
      refine encR_of (l := 3 :: textL s) ?_ (by simp) b3
      rw [List.length_cons, Nat.add_comm]
      exact o3
end Go.Proofs.YtbdfcgffkonbiaaDoor.V7
