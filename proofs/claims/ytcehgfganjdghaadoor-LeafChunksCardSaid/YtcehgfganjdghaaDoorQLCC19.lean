/- The document's own answers of layer 1, as walks: each comes to what the plain function says. -/
/- Texts of layer 1. -/
/- Values: their bytes. Written by wip/tools/gen7k.py. -/
import Derived.Test.YtcehgfganjdghaaDoorQLCC18
import Derived.Laws.AppendOwnNone
import Derived.Test.YtcehgfganjdghaaDoorQLCC15
namespace Go.Proofs.YtcehgfganjdghaaDoor
open Go.RowKit
set_option linter.unusedVariables false
set_option linter.unusedSimpArgs false
set_option maxRecDepth 100000 in
set_option maxHeartbeats 400000 in
theorem refPut_any (v : Int) (m : Nat) (hv : v = (m : Int)) (hu : U64 v) (w : World) :
    Calls Tryd.prog 49 #[.int .u64 v] w fun e w' => e = .returned (.string (str (putL m))) ∧ Below w.heap.size w w' := by
  obtain ⟨i0, hi, hz0, hz1, hz2⟩ := info_parts u8info
  subst hv
  go_enter Tryd.func49, Tryd.ntmps49
  go_wp2_with fail
  go_loopw [0, 3] (fun x s wr => ∃ (y : Nat) (pre : List UInt8), x = .int .u64 y ∧ Hid (y * 128 ^ pre.length < 18446744073709551616) ∧ pre.length ≤ 9 ∧ wr.ownsRow w.heap.size 5 1 s pre.length (pre.map bv) ∧ Hid (pre ++ putF (9 - pre.length) y = putL m) ∧ Below w.heap.size w wr)
    (fun x _ _ => (intOf x).toNat)
  case atStart => exact ⟨m, [], rfl, by have := hu.2; show _ < _; simp; omega, by simp, World.ownsRow_nil _ _ _ _, rfl, Below.refl _ _⟩
  case round =>
    obtain ⟨y, pre, rfl, hy, hp, hown, hpre, hb⟩ := hrel
    by_cases h128 : 128 ≤ (y : Int)
    · go_wp2_with (at_builtin; go_loud (refine wpList_app1 w rfl _ _ 58 rfl w.heap.size 5 i0 (.int .u8 0) 1 Tryd.underlying58 hi hz0 hz1 hz2 rfl _ _ _ rfl hown _ _ rfl rfl (by unfold maxLen; omega) (by omega) (Nat.le_refl _) hb ?_); intro v' w1 hown' hb')
      have ew : IntKind.u64.wrap ((y : Int) / 128) = ((y / 128 : Nat) : Int) := by
        have := hy.out
        have : y * 1 ≤ y * 128 ^ pre.length := Nat.mul_le_mul_left _ (Nat.pow_pos (by decide))
        rw [IntKind.wrap_u64]; omega
      have eb : Value.int .u8 ((y : Int) % 128 + 128) = bv (UInt8.ofNat (y % 128 + 128)) := by rw [← byte_more]; congr 1; have := or128 (y % 256) (Nat.mod_lt _ (by decide)); rw [show ((y : Int) % 256) = ((y % 256 : Nat) : Int) from by omega, this]; omega
      rw [eb] at hown'
      rw [ew]
      have hs := put_step hy hp hpre (by omega)
      go_roundw
      case rel => exact ⟨y / 128, pre ++ [UInt8.ofNat (y % 128 + 128)], rfl, hs.2.1, by simp; omega, by simpa using hown', hs.2.2, hb'⟩
      case measure => simp [intOf]; omega
    · have hl := put_last hpre (by omega)
      have HL := Lib.hid hl
      clear hl
      go_wp2_with (at_builtin; go_loud (refine wpList_app1 w rfl _ _ 58 rfl w.heap.size 5 i0 (.int .u8 0) 1 Tryd.underlying58 hi hz0 hz1 hz2 rfl _ _ _ rfl hown _ _ rfl rfl (by unfold maxLen; omega) (by omega) (Nat.le_refl _) hb ?_); intro v' w1 hown' hb'; rw [byte_last y (by omega), ← List.map_singleton, ← List.map_append, HL.out] at hown'; obtain ⟨g, cap, rfl, _, _⟩ := slice_of_own hown' (by omega); have k1 := conv_rd (P := Tryd.prog) (own_rd hown') 58 5 9 Tryd.underlying58 Tryd.underlying5 Tryd.underlying9)
      go_ret
      exact ⟨rfl, hb'⟩
end Go.Proofs.YtcehgfganjdghaaDoor
namespace Go.Proofs.YtcehgfganjdghaaDoor
open Go.RowKit
set_option linter.unusedVariables false
set_option linter.unusedSimpArgs false
set_option maxRecDepth 100000 in
theorem refCutInt_at (l : List UInt8) (x n c : Nat) (hr : Hid (cutL l = (x, n, c))) (hlen : l.length ≤ maxLen) (w : World) :
    Calls Tryd.prog 93 #[.string (str l)] w fun e w' => e = .returned (.tuple #[.int .i64 (unzig x), .int .i64 n, .int .i64 c]) ∧ w = w' := by
  have hx := Lib.hid (cutL_facts hr.out).1
  have h2 : x % 2 = 1 ∨ x % 2 ≤ 0 := by omega
  rcases h2 with h2 | h2
  all_goals
   go_enter Tryd.func93, Tryd.ntmps93
   go_wp2_with (go_at_call 67; refine (refCut_at _ x n c hr hlen _).mono ?_; rintro e w' ⟨rfl, rfl⟩)
   have hx' := hx.out
   go_ret3
   refine ⟨?_, rfl⟩
   have : ∀ y : Int, y = unzig x → Ending.returned (.tuple #[.int .i64 y, .int .i64 n, .int .i64 c]) = Ending.returned (.tuple #[.int .i64 (unzig x), .int .i64 n, .int .i64 c]) := fun y h => by rw [h]
   refine this _ ?_
   unfold unzig wrap64
   simp only [IntKind.wrap_u64]
   split <;> omega
/-- What a text is read as. -/
def cutTextL (l : List UInt8) : List UInt8 × Nat × Nat :=
  match cutL l with
  | (x, n, c) => if c ≠ 0 then ([], 0, c) else if 255 < x then ([], 0, 8) else if l.length < n + x then ([], 0, 2) else ((l.drop n).take x, n + x, 0)
theorem cutTextL_eq {l : List UInt8} {x n c : Nat} (h : cutL l = (x, n, c)) : cutTextL l = if c ≠ 0 then ([], 0, c) else if 255 < x then ([], 0, 8) else if l.length < n + x then ([], 0, 2) else ((l.drop n).take x, n + x, 0) := by
  unfold cutTextL; rw [h]
theorem str_extract (l : List UInt8) (i j : Nat) : (str l).extract i j = str ((l.drop i).take (j - i)) := by
  apply ByteArray.ext
  simp [str, ByteArray.data_extract]
theorem str_append (a b : List UInt8) : str a ++ str b = str (a ++ b) := by
  apply ByteArray.ext
  simp [str, ByteArray.data_append]
set_option maxRecDepth 100000 in
theorem refCutText_at (l : List UInt8) (x n c : Nat) (hr : Hid (cutL l = (x, n, c))) (hlen : l.length ≤ 2000) (w : World) :
    Calls Tryd.prog 65 #[.string (str l)] w fun e w' => e = .returned (.tuple #[.string (str (cutTextL l).1), .int .i64 (cutTextL l).2.1, .int .i64 (cutTextL l).2.2]) ∧ w = w' := by
  have hsz : (str l).size = l.length := str_size l
  have hf := cutL_facts hr.out
  obtain ⟨f1, f2, f3, f4, f5, f6⟩ := hf
  have hv := Lib.hid f1
  have h4 := Lib.hid f4
  clear f1 f4 f5 f6
  have hml : l.length ≤ maxLen := by unfold maxLen; omega
  go_enter Tryd.func65, Tryd.ntmps65
  have K := Lib.hid (cutTextL_eq hr.out)
  have hc : 0 < c ∨ c ≤ 0 := by omega
  rcases hc with hc | hc
  all_goals
    go_wp2_with (go_at_call 67; refine (refCut_at _ x n c hr hml _).mono ?_; rintro e w' ⟨rfl, rfl⟩)
  all_goals
    go_ret3
    refine ⟨?_, rfl⟩
    rw [K.out]
  · rw [if_pos (by omega)]; rfl
  · rw [if_neg (by omega), if_pos (by omega)]; rfl
  · rw [if_neg (by omega), if_neg (by omega), if_pos (by omega)]; rfl
  · rw [if_neg (by omega), if_neg (by omega), if_neg (by omega)]
    show Ending.returned (.tuple #[.string ((str l).extract n (n + x)), .int .i64 ((n : Int) + (x : Int)), .int .i64 0]) = _
    rw [str_extract]; simp
set_option maxRecDepth 100000 in
theorem cutText_at (v : Value) (l : List UInt8) (x n c : Nat) (hr : Hid (cutL l = (x, n, c))) (hlen : l.length ≤ 2000) (w : World) (h : Rd w v l) :
    Calls Tryd.prog 90 #[v] w fun e w' => e = .returned (.tuple #[.string (str (cutTextL l).1), .int .i64 (cutTextL l).2.1, .int .i64 (cutTextL l).2.2]) ∧ w = w' := by
  have hf := cutL_facts hr.out
  obtain ⟨f1, f2, f3, f4, f5, f6⟩ := hf
  have hv := Lib.hid f1
  have h4 := Lib.hid f4
  clear f1 f4 f5 f6
  have h0 := h
  obtain ⟨ao, cap, rfl, hl, hm, hn, hx⟩ := h0
  have HX := Lib.hid hx
  have HN := Lib.hid hn
  clear hx hn
  go_enter Tryd.func90, Tryd.ntmps90
  have K := Lib.hid (cutTextL_eq hr.out)
  obtain ⟨i0, hi, hz0, hz1, hz2⟩ := info_parts u8info
  unfold maxLen at hm
  have hc : 0 < c ∨ c ≤ 0 := by omega
  rcases hc with hc | hc
  all_goals
   go_wp2_with (first
    | (go_at_call 92; refine (cut_at _ _ x n c hr _ h).mono ?_; rintro e w' ⟨rfl, rfl⟩)
    | (with_reducible refine wpList_slice_rd rfl 58 5 _ _ _ rfl i0 Tryd.underlying58 hi hz1 _ _ _ l rfl h _ _ _ _ rfl rfl n x (by omega) (by omega) (by omega) ?_; intro ao' cap' hr'; have k1 := conv_rd (P := Tryd.prog) hr' 58 5 9 Tryd.underlying58 Tryd.underlying5 Tryd.underlying9))
  all_goals
    go_ret3
    refine ⟨?_, rfl⟩
    rw [K.out]
  · rw [if_pos (by omega)]; rfl
  · rw [if_neg (by omega), if_pos (by omega)]; rfl
  · rw [if_neg (by omega), if_neg (by omega), if_pos (by omega)]; rfl
  · rw [if_neg (by omega), if_neg (by omega), if_neg (by omega)]; rfl
set_option maxRecDepth 100000 in
theorem refText_at (l : List UInt8) (hlen : l.length ≤ 255) (w : World) :
    Calls Tryd.prog 51 #[.string (str l)] w fun e w' => e = .returned (.string (str (putL l.length ++ l))) ∧ Below w.heap.size w w' := by
  have hsz : (str l).size = l.length := str_size l
  go_enter Tryd.func51, Tryd.ntmps51
  have hpl : (str (putL l.length)).size ≤ 10 := by rw [str_size]; exact (putL_len _).2
  go_wp2_with (go_at_call 49; refine (refPut_any _ l.length rfl ⟨by omega, by omega⟩ _).mono ?_; rintro e w' ⟨rfl, hb⟩)
  go_ret
  refine ⟨?_, hb⟩
  show Ending.returned (.string (str (putL l.length) ++ str l)) = _
  rw [str_append]
end Go.Proofs.YtcehgfganjdghaaDoor
namespace Go.Proofs.YtcehgfganjdghaaDoor.V7
open Go Go.RowKit
set_option linter.unusedVariables false
set_option linter.unusedSimpArgs false
/-- A value's bytes; none, if it may not be. -/
def encL (a : V) : List UInt8 := if mayB a = false then [] else if a.k = 1 then [1, if a.i = 0 then 0 else 1] else if a.k = 2 then 2 :: putL (zigN a.i) else if a.k = 3 then 3 :: textL a.s else [0]
def EncR (w : World) (l : List UInt8) (e : Ending) (w' : World) : Prop := ∃ v, e = .returned v ∧ Rd w' v l ∧ w'.ownsRow w.heap.size 5 1 v l.length (l.map bv) ∧ Below w.heap.size w w'
theorem encR_of {w w' : World} {v : Value} {l : List UInt8} (ho : w'.ownsRow w.heap.size 5 1 v l.length (l.map bv)) (hl : 0 < l.length) (hb : Below w.heap.size w w') : EncR w l (.returned v) w' := by
  obtain ⟨g, cap, rfl, _, _⟩ := slice_of_own ho hl
  exact ⟨_, rfl, own_rd ho, ho, hb⟩
theorem own_below {w w' : World} {b : Nat} {e : TypeId} {size : Nat} {v : Value} {n : Nat} {xs : List Value} (h : w.ownsRow b e size v n xs) (hb : Below w.heap.size w w') : w'.ownsRow b e size v n xs := by
  refine ⟨h.1, ?_⟩
  rcases h.2 with h1 | ⟨g, cap, cur, rfl, h2, h3, h4⟩
  · exact .inl h1
  · exact .inr ⟨g, cap, cur, rfl, h2, (hb.block g (lt_of_block h3)).trans h3, h4⟩
theorem textL_len (s : List UInt8) (h : s.length ≤ 64) : (textL s).length ≤ 74 := by
  unfold textL
  rw [if_pos (by omega), List.length_append]
  have := (putL_len s.length).2
  omega
set_option maxRecDepth 100000 in
set_option maxHeartbeats 1000000 in
theorem encode_any (k i : Int) (s : List UInt8) (w : World) (hs : s.length ≤ maxLen) (hI : I64 i) :
    Calls Tryd.prog 53 #[.agg #[.int .i64 k, .int .i64 i, .string (str s)]] w (EncR w (encL ⟨k, i, s⟩)) := by
  obtain ⟨i0, hi, hz0, hz1, hz2⟩ := info_parts u8info
  have M := fun w => may_any k i s w hs
  cases hm : mayB ⟨k, i, s⟩ with
  | false =>
    have e : encL ⟨k, i, s⟩ = [] := by unfold encL; rw [if_pos hm]
    rw [e]
    rw [hm] at M
    clear e hm hs hI
    obtain ⟨q1, bel⟩ : (w.alloc (.cells #[.int .i64 k, .int .i64 i, .string (str s)] 30)).heap[w.heap.size]? = some (.cells #[.int .i64 k, .int .i64 i, .string (str s)] 30) ∧ Below w.heap.size w (w.alloc (.cells #[.int .i64 k, .int .i64 i, .string (str s)] 30)) := ⟨heap_alloc_new _ _, (Below.refl _ _).alloc (Nat.le_refl _) _⟩
    go_enter Tryd.func53, Tryd.ntmps53
    go_wp2_with fail
    refine (M _).mono ?_
    rintro e w1 ⟨rfl, g⟩
    replace q1 := (g.block _ (lt_of_block q1)).trans q1
    replace bel := chain bel g
    clear g
    obtain ⟨c0, c1, c2⟩ := cells3 q1
    have ql := lt_of_block q1
    go_wp2_with fail
    go_ret
    exact ⟨_, rfl, rd_nil _, World.ownsRow_nil _ _ _ _, bel⟩
  | true =>
    have hc := hm
    simp only [mayB, decide_eq_true_eq] at hc
    rw [hm] at M
    rcases hc with ⟨rfl, rfl, rfl⟩ | ⟨rfl, h2, rfl⟩ | ⟨rfl, rfl⟩ | ⟨rfl, rfl, h3⟩
    · have e : encL ⟨0, 0, []⟩ = [0] := by decide
      rw [e]
      clear e hm hs hI
      obtain ⟨q1, bel⟩ : (w.alloc (.cells #[.int .i64 0, .int .i64 0, .string (str [])] 30)).heap[w.heap.size]? = some (.cells #[.int .i64 0, .int .i64 0, .string (str [])] 30) ∧ Below w.heap.size w (w.alloc (.cells #[.int .i64 0, .int .i64 0, .string (str [])] 30)) := ⟨heap_alloc_new _ _, (Below.refl _ _).alloc (Nat.le_refl _) _⟩
      go_enter Tryd.func53, Tryd.ntmps53
      go_wp2_with fail
      refine (M _).mono ?_
      rintro e w1 ⟨rfl, g⟩
      replace q1 := (g.block _ (lt_of_block q1)).trans q1
      replace bel := chain bel g
      clear g
      obtain ⟨c0, c1, c2⟩ := cells3 q1
      have ql := lt_of_block q1
      have ho : (w1.alloc (.cells #[.int .u8 0] 5)).ownsRow w.heap.size 5 1 (.slice (some ⟨w1.heap.size, 0, none⟩) 1 1) 1 [.int .u8 0] := World.ownsRow_lit w1 #[.int .u8 0] 1 bel.size (by decide) rfl
      have hb1 : Below w.heap.size w (w1.alloc (.cells #[.int .u8 0] 5)) := bel.alloc bel.size _
      go_wp2_with fail
      go_ret
      exact encR_of (l := [0]) ho (by decide) hb1
    · rcases h2 with rfl | rfl
      · have e : encL ⟨1, 0, []⟩ = [1, 0] := by decide
        rw [e]
        clear e hm hs hI
        obtain ⟨q1, bel⟩ : (w.alloc (.cells #[.int .i64 1, .int .i64 0, .string (str [])] 30)).heap[w.heap.size]? = some (.cells #[.int .i64 1, .int .i64 0, .string (str [])] 30) ∧ Below w.heap.size w (w.alloc (.cells #[.int .i64 1, .int .i64 0, .string (str [])] 30)) := ⟨heap_alloc_new _ _, (Below.refl _ _).alloc (Nat.le_refl _) _⟩
        go_enter Tryd.func53, Tryd.ntmps53
        go_wp2_with fail
        refine (M _).mono ?_
        rintro e w1 ⟨rfl, g⟩
        replace q1 := (g.block _ (lt_of_block q1)).trans q1
        replace bel := chain bel g
        clear g
        obtain ⟨c0, c1, c2⟩ := cells3 q1
        have ql := lt_of_block q1
        have ho : (w1.alloc (.cells #[.int .u8 1] 5)).ownsRow w.heap.size 5 1 (.slice (some ⟨w1.heap.size, 0, none⟩) 1 1) 1 [.int .u8 1] := World.ownsRow_lit w1 #[.int .u8 1] 1 bel.size (by decide) rfl
        have hb1 : Below w.heap.size w (w1.alloc (.cells #[.int .u8 1] 5)) := bel.alloc bel.size _
        go_wp2_with (at_builtin; go_loud (refine wpList_app1 w rfl _ _ 58 rfl w.heap.size 5 i0 (.int .u8 0) 1 Tryd.underlying58 hi hz0 hz1 hz2 rfl _ _ _ rfl ho _ _ (by rw [World.size_alloc]; rfl) rfl (by decide) (by decide) (Nat.le_refl _) hb1 ?_); intro v' w2 o2 b2)
        go_ret
        exact encR_of (l := [1, 0]) o2 (by decide) b2
      · have e : encL ⟨1, 1, []⟩ = [1, 1] := by decide
        rw [e]
        clear e hm hs hI
        obtain ⟨q1, bel⟩ : (w.alloc (.cells #[.int .i64 1, .int .i64 1, .string (str [])] 30)).heap[w.heap.size]? = some (.cells #[.int .i64 1, .int .i64 1, .string (str [])] 30) ∧ Below w.heap.size w (w.alloc (.cells #[.int .i64 1, .int .i64 1, .string (str [])] 30)) := ⟨heap_alloc_new _ _, (Below.refl _ _).alloc (Nat.le_refl _) _⟩
        go_enter Tryd.func53, Tryd.ntmps53
        go_wp2_with fail
        refine (M _).mono ?_
        rintro e w1 ⟨rfl, g⟩
        replace q1 := (g.block _ (lt_of_block q1)).trans q1
        replace bel := chain bel g
        clear g
        obtain ⟨c0, c1, c2⟩ := cells3 q1
        have ql := lt_of_block q1
        have ho : (w1.alloc (.cells #[.int .u8 1] 5)).ownsRow w.heap.size 5 1 (.slice (some ⟨w1.heap.size, 0, none⟩) 1 1) 1 [.int .u8 1] := World.ownsRow_lit w1 #[.int .u8 1] 1 bel.size (by decide) rfl
        have hb1 : Below w.heap.size w (w1.alloc (.cells #[.int .u8 1] 5)) := bel.alloc bel.size _
        go_wp2_with (at_builtin; go_loud (refine wpList_app1 w rfl _ _ 58 rfl w.heap.size 5 i0 (.int .u8 0) 1 Tryd.underlying58 hi hz0 hz1 hz2 rfl _ _ _ rfl ho _ _ (by rw [World.size_alloc]; rfl) rfl (by decide) (by decide) (Nat.le_refl _) hb1 ?_); intro v' w2 o2 b2)
        go_ret
        exact encR_of (l := [1, 1]) o2 (by decide) b2
    · have e : encL ⟨2, i, []⟩ = 2 :: putL (zigN i) := by unfold encL; rw [if_neg (by rw [hm]; simp)]; rfl
      rw [e]
      clear e hm hs
      obtain ⟨q1, bel⟩ : (w.alloc (.cells #[.int .i64 2, .int .i64 i, .string (str [])] 30)).heap[w.heap.size]? = some (.cells #[.int .i64 2, .int .i64 i, .string (str [])] 30) ∧ Below w.heap.size w (w.alloc (.cells #[.int .i64 2, .int .i64 i, .string (str [])] 30)) := ⟨heap_alloc_new _ _, (Below.refl _ _).alloc (Nat.le_refl _) _⟩
      go_enter Tryd.func53, Tryd.ntmps53
      go_wp2_with fail
      refine (M _).mono ?_
      rintro e w1 ⟨rfl, g⟩
      replace q1 := (g.block _ (lt_of_block q1)).trans q1
      replace bel := chain bel g
      clear g
      obtain ⟨c0, c1, c2⟩ := cells3 q1
      have ql := lt_of_block q1
      have ho : (w1.alloc (.cells #[.int .u8 2] 5)).ownsRow w.heap.size 5 1 (.slice (some ⟨w1.heap.size, 0, none⟩) 1 1) 1 [.int .u8 2] := World.ownsRow_lit w1 #[.int .u8 2] 1 bel.size (by decide) rfl
      have hb1 : Below w.heap.size w (w1.alloc (.cells #[.int .u8 2] 5)) := bel.alloc bel.size _
      go_wp2_with fail
      refine (putInt_any i hI _).mono ?_
      rintro e w2 ⟨g2, n2, cap2, rfl, hn2, hl2, o2, b2⟩
      have r2 : Rd w2 (.slice (some ⟨g2, 0, none⟩) n2 cap2) (putL (zigN i)) := own_rd o2
      have ho2 := own_below ho b2
      have hb2 := chain hb1 b2
      have hl3 := (putL_len (zigN i)).2
      go_wp2_with (at_builtin; go_loud (refine wpList_app_rd w rfl _ _ 58 rfl w.heap.size 5 i0 (.int .u8 0) 1 Tryd.underlying58 hi hz0 hz1 hz2 rfl _ _ _ rfl ho2 _ _ rfl r2 (by unfold maxLen; omega) (by omega) (Nat.le_refl _) hb2 ?_); intro v' w3 o3 b3)
      go_ret
      refine encR_of (l := 2 :: putL (zigN i)) ?_ (by simp) b3
      rw [List.length_cons, Nat.add_comm]
      exact o3
    · have e : encL ⟨3, 0, s⟩ = 3 :: textL s := by unfold encL; rw [if_neg (by rw [hm]; simp)]; rfl
      rw [e]
      have hl3 := textL_len s h3
      clear e hm hs hI
      obtain ⟨q1, bel⟩ : (w.alloc (.cells #[.int .i64 3, .int .i64 0, .string (str s)] 30)).heap[w.heap.size]? = some (.cells #[.int .i64 3, .int .i64 0, .string (str s)] 30) ∧ Below w.heap.size w (w.alloc (.cells #[.int .i64 3, .int .i64 0, .string (str s)] 30)) := ⟨heap_alloc_new _ _, (Below.refl _ _).alloc (Nat.le_refl _) _⟩
      go_enter Tryd.func53, Tryd.ntmps53
      go_wp2_with fail
      refine (M _).mono ?_
      rintro e w1 ⟨rfl, g⟩
      replace q1 := (g.block _ (lt_of_block q1)).trans q1
      replace bel := chain bel g
      clear g
      obtain ⟨c0, c1, c2⟩ := cells3 q1
      have ql := lt_of_block q1
      have ho : (w1.alloc (.cells #[.int .u8 3] 5)).ownsRow w.heap.size 5 1 (.slice (some ⟨w1.heap.size, 0, none⟩) 1 1) 1 [.int .u8 3] := World.ownsRow_lit w1 #[.int .u8 3] 1 bel.size (by decide) rfl
      have hb1 : Below w.heap.size w (w1.alloc (.cells #[.int .u8 3] 5)) := bel.alloc bel.size _
      go_wp2_with fail
      refine (putText_any s _ (by unfold maxLen; omega)).mono ?_
      rintro e w2 ⟨v2, rfl, r2, o2, b2⟩
      have ho2 := own_below ho b2
      have hb2 := chain hb1 b2
      go_wp2_with (at_builtin; go_loud (refine wpList_app_rd w rfl _ _ 58 rfl w.heap.size 5 i0 (.int .u8 0) 1 Tryd.underlying58 hi hz0 hz1 hz2 rfl _ _ _ rfl ho2 _ _ rfl r2 (by unfold maxLen; omega) (by omega) (Nat.le_refl _) hb2 ?_); intro v' w3 o3 b3)
      go_ret
      refine encR_of (l := 3 :: textL s) ?_ (by simp) b3
      rw [List.length_cons, Nat.add_comm]
      exact o3
end Go.Proofs.YtcehgfganjdghaaDoor.V7
