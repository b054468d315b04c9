/- Values: their bytes. Written by wip/tools/gen7k.py. -/
import Derived.Test.YtbdfcgffkonbiaaDoorQSN10
import Derived.Test.YtbdfcgffkonbiaaDoorQSN12
namespace Go.Proofs.YtbdfcgffkonbiaaDoor.V7
open Go Go.RowKit
set_option linter.unusedVariables false
set_option linter.unusedSimpArgs false
/-- A value's bytes; none, if it may not be. -/
def encL (a : V) : List UInt8 := if mayB a = false then [] else if a.k = 1 then [1, if a.i = 0 then 0 else 1] else if a.k = 2 then 2 :: putL (zigN a.i) else if a.k = 3 then 3 :: textL a.s else [0]
def EncR (w : World) (l : List UInt8) (e : Ending) (w' : World) : Prop := ∃ v, e = .returned v ∧ Rd w' v l ∧ w'.ownsRow w.heap.size 5 1 v l.length (l.map bv) ∧ Below w.heap.size w w'
theorem encR_of {w w' : World} {v : Value} {l : List UInt8} (ho : w'.ownsRow w.heap.size 5 1 v l.length (l.map bv)) (hl : 0 < l.length) (hb : Below w.heap.size w w') : EncR w l (.returned v) w' := by
  obtain ⟨g, cap, rfl, _, _⟩ := slice_of_own ho hl
  exact ⟨_, rfl, own_rd ho, ho, hb⟩
theorem own_below {w w' : World} {b : Nat} {e : TypeId} {size : Nat} {v : Value} {n : Nat} {xs : List Value} (h : w.ownsRow b e size v n xs) (hb : Below w.heap.size w w') : w'.ownsRow b e size v n xs := by
  refine ⟨h.1, ?_⟩
  rcases h.2 with h1 | ⟨g, cap, cur, rfl, h2, h3, h4⟩
  · exact .inl h1
  · exact .inr ⟨g, cap, cur, rfl, h2, (hb.block g (lt_of_block h3)).trans h3, h4⟩
theorem textL_len (s : List UInt8) (h : s.length ≤ 64) : (textL s).length ≤ 74 := by
  unfold textL
  rw [if_pos (by omega), List.length_append]
  have := (putL_len s.length).2
  omega
set_option maxRecDepth 100000 in
set_option maxHeartbeats 1000000 in
theorem encode_any (k i : Int) (s : List UInt8) (w : World) (hs : s.length ≤ maxLen) (hI : I64 i) :
    Calls Tryd.prog 113 #[.agg #[.int .i64 k, .int .i64 i, .string (str s)]] w (EncR w (encL ⟨k, i, s⟩)) := by
  obtain ⟨i0, hi, hz0, hz1, hz2⟩ := info_parts u8info
  have M := fun w => may_any k i s w hs
  cases hm : mayB ⟨k, i, s⟩ with
  | false =>
    have e : encL ⟨k, i, s⟩ = [] := by unfold encL; rw [if_pos hm]
    rw [e]
    rw [hm] at M
    clear e hm hs hI
    obtain ⟨q1, bel⟩ : (w.alloc (.cells #[.int .i64 k, .int .i64 i, .string (str s)] 43)).heap[w.heap.size]? = some (.cells #[.int .i64 k, .int .i64 i, .string (str s)] 43) ∧ Below w.heap.size w (w.alloc (.cells #[.int .i64 k, .int .i64 i, .string (str s)] 43)) := ⟨heap_alloc_new _ _, (Below.refl _ _).alloc (Nat.le_refl _) _⟩
    go_enter Tryd.func113, Tryd.ntmps113
    go_wp2_with fail
    refine (M _).mono ?_
    rintro e w1 ⟨rfl, g⟩
    replace q1 := (g.block _ (lt_of_block q1)).trans q1
    replace bel := chain bel g
    clear g
    obtain ⟨c0, c1, c2⟩ := cells3 q1
    have ql := lt_of_block q1
    go_wp2_with fail
    go_ret
    exact ⟨_, rfl, rd_nil _, World.ownsRow_nil _ _ _ _, bel⟩
  | true =>
    have hc := hm
    simp only [mayB, decide_eq_true_eq] at hc
    rw [hm] at M
    rcases hc with ⟨rfl, rfl, rfl⟩ | ⟨rfl, h2, rfl⟩ | ⟨rfl, rfl⟩ | ⟨rfl, rfl, h3⟩
    · have e : encL ⟨0, 0, []⟩ = [0] := by decide
      rw [e]
      clear e hm hs hI
      obtain ⟨q1, bel⟩ : (w.alloc (.cells #[.int .i64 0, .int .i64 0, .string (str [])] 43)).heap[w.heap.size]? = some (.cells #[.int .i64 0, .int .i64 0, .string (str [])] 43) ∧ Below w.heap.size w (w.alloc (.cells #[.int .i64 0, .int .i64 0, .string (str [])] 43)) := ⟨heap_alloc_new _ _, (Below.refl _ _).alloc (Nat.le_refl _) _⟩
      go_enter Tryd.func113, Tryd.ntmps113
      go_wp2_with fail
      refine (M _).mono ?_
      rintro e w1 ⟨rfl, g⟩
      replace q1 := (g.block _ (lt_of_block q1)).trans q1
      replace bel := chain bel g
      clear g
      obtain ⟨c0, c1, c2⟩ := cells3 q1
      have ql := lt_of_block q1
      have ho : (w1.alloc (.cells #[.int .u8 0] 5)).ownsRow w.heap.size 5 1 (.slice (some ⟨w1.heap.size, 0, none⟩) 1 1) 1 [.int .u8 0] := World.ownsRow_lit w1 #[.int .u8 0] 1 bel.size (by decide) rfl
      have hb1 : Below w.heap.size w (w1.alloc (.cells #[.int .u8 0] 5)) := bel.alloc bel.size _
      go_wp2_with fail
      go_ret
      exact encR_of (l := [0]) ho (by decide) hb1
    · rcases h2 with rfl | rfl
      · have e : encL ⟨1, 0, []⟩ = [1, 0] := by decide
        rw [e]
        clear e hm hs hI
        obtain ⟨q1, bel⟩ : (w.alloc (.cells #[.int .i64 1, .int .i64 0, .string (str [])] 43)).heap[w.heap.size]? = some (.cells #[.int .i64 1, .int .i64 0, .string (str [])] 43) ∧ Below w.heap.size w (w.alloc (.cells #[.int .i64 1, .int .i64 0, .string (str [])] 43)) := ⟨heap_alloc_new _ _, (Below.refl _ _).alloc (Nat.le_refl _) _⟩
        go_enter Tryd.func113, Tryd.ntmps113
        go_wp2_with fail
        refine (M _).mono ?_
        rintro e w1 ⟨rfl, g⟩
        replace q1 := (g.block _ (lt_of_block q1)).trans q1
        replace bel := chain bel g
        clear g
        obtain ⟨c0, c1, c2⟩ := cells3 q1
        have ql := lt_of_block q1
        have ho : (w1.alloc (.cells #[.int .u8 1] 5)).ownsRow w.heap.size 5 1 (.slice (some ⟨w1.heap.size, 0, none⟩) 1 1) 1 [.int .u8 1] := World.ownsRow_lit w1 #[.int .u8 1] 1 bel.size (by decide) rfl
        have hb1 : Below w.heap.size w (w1.alloc (.cells #[.int .u8 1] 5)) := bel.alloc bel.size _
        go_wp2_with (at_builtin; go_loud (refine wpList_app1 w rfl _ _ 126 rfl w.heap.size 5 i0 (.int .u8 0) 1 Tryd.underlying126 hi hz0 hz1 hz2 rfl _ _ _ rfl ho _ _ (by rw [World.size_alloc]; rfl) rfl (by decide) (by decide) (Nat.le_refl _) hb1 ?_); intro v' w2 o2 b2)
        go_ret
        exact encR_of (l := [1, 0]) o2 (by decide) b2
      · have e : encL ⟨1, 1, []⟩ = [1, 1] := by decide
        rw [e]
        clear e hm hs hI
        obtain ⟨q1, bel⟩ : (w.alloc (.cells #[.int .i64 1, .int .i64 1, .string (str [])] 43)).heap[w.heap.size]? = some (.cells #[.int .i64 1, .int .i64 1, .string (str [])] 43) ∧ Below w.heap.size w (w.alloc (.cells #[.int .i64 1, .int .i64 1, .string (str [])] 43)) := ⟨heap_alloc_new _ _, (Below.refl _ _).alloc (Nat.le_refl _) _⟩
        go_enter Tryd.func113, Tryd.ntmps113
        go_wp2_with fail
        refine (M _).mono ?_
        rintro e w1 ⟨rfl, g⟩
        replace q1 := (g.block _ (lt_of_block q1)).trans q1
        replace bel := chain bel g
        clear g
        obtain ⟨c0, c1, c2⟩ := cells3 q1
        have ql := lt_of_block q1
        have ho : (w1.alloc (.cells #[.int .u8 1] 5)).ownsRow w.heap.size 5 1 (.slice (some ⟨w1.heap.size, 0, none⟩) 1 1) 1 [.int .u8 1] := World.ownsRow_lit w1 #[.int .u8 1] 1 bel.size (by decide) rfl
        have hb1 : Below w.heap.size w (w1.alloc (.cells #[.int .u8 1] 5)) := bel.alloc bel.size _
        go_wp2_with (at_builtin; go_loud (refine wpList_app1 w rfl _ _ 126 rfl w.heap.size 5 i0 (.int .u8 0) 1 Tryd.underlying126 hi hz0 hz1 hz2 rfl _ _ _ rfl ho _ _ (by rw [World.size_alloc]; rfl) rfl (by decide) (by decide) (Nat.le_refl _) hb1 ?_); intro v' w2 o2 b2)
        go_ret
        exact encR_of (l := [1, 1]) o2 (by decide) b2
    · have e : encL ⟨2, i, []⟩ = 2 :: putL (zigN i) := by unfold encL; rw [if_neg (by rw [hm]; simp)]; rfl
      rw [e]
      clear e hm hs
      obtain ⟨q1, bel⟩ : (w.alloc (.cells #[.int .i64 2, .int .i64 i, .string (str [])] 43)).heap[w.heap.size]? = some (.cells #[.int .i64 2, .int .i64 i, .string (str [])] 43) ∧ Below w.heap.size w (w.alloc (.cells #[.int .i64 2, .int .i64 i, .string (str [])] 43)) := ⟨heap_alloc_new _ _, (Below.refl _ _).alloc (Nat.le_refl _) _⟩
      go_enter Tryd.func113, Tryd.ntmps113
      go_wp2_with fail
      refine (M _).mono ?_
      rintro e w1 ⟨rfl, g⟩
      replace q1 := (g.block _ (lt_of_block q1)).trans q1
      replace bel := chain bel g
      clear g
      obtain ⟨c0, c1, c2⟩ := cells3 q1
      have ql := lt_of_block q1
      have ho : (w1.alloc (.cells #[.int .u8 2] 5)).ownsRow w.heap.size 5 1 (.slice (some ⟨w1.heap.size, 0, none⟩) 1 1) 1 [.int .u8 2] := World.ownsRow_lit w1 #[.int .u8 2] 1 bel.size (by decide) rfl
      have hb1 : Below w.heap.size w (w1.alloc (.cells #[.int .u8 2] 5)) := bel.alloc bel.size _
      go_wp2_with fail
      refine (putInt_any i hI _).mono ?_
      rintro e w2 ⟨g2, n2, cap2, rfl, hn2, hl2, o2, b2⟩
      have r2 : Rd w2 (.slice (some ⟨g2, 0, none⟩) n2 cap2) (putL (zigN i)) := own_rd o2
      have ho2 := own_below ho b2
      have hb2 := chain hb1 b2
      have hl3 := (putL_len (zigN i)).2
      go_wp2_with (at_builtin; go_loud (refine wpList_app_rd w rfl _ _ 126 rfl w.heap.size 5 i0 (.int .u8 0) 1 Tryd.underlying126 hi hz0 hz1 hz2 rfl _ _ _ rfl ho2 _ _ rfl r2 (by unfold maxLen; omega) (by omega) (Nat.le_refl _) hb2 ?_); intro v' w3 o3 b3)
      go_ret
      refine encR_of (l := 2 :: putL (zigN i)) ?_ (by simp) b3
      rw [List.length_cons, Nat.add_comm]
      exact o3
    · have e : encL ⟨3, 0, s⟩ = 3 :: textL s := by unfold encL; rw [if_neg (by rw [hm]; simp)]; rfl
      rw [e]
      have hl3 := textL_len s h3
      clear e hm hs hI
      obtain ⟨q1, bel⟩ : (w.alloc (.cells #[.int .i64 3, .int .i64 0, .string (str s)] 43)).heap[w.heap.size]? = some (.cells #[.int .i64 3, .int .i64 0, .string (str s)] 43) ∧ Below w.heap.size w (w.alloc (.cells #[.int .i64 3, .int .i64 0, .string (str s)] 43)) := ⟨heap_alloc_new _ _, (Below.refl _ _).alloc (Nat.le_refl _) _⟩
      go_enter Tryd.func113, Tryd.ntmps113
      go_wp2_with fail
      refine (M _).mono ?_
      rintro e w1 ⟨rfl, g⟩
      replace q1 := (g.block _ (lt_of_block q1)).trans q1
      replace bel := chain bel g
      clear g
      obtain ⟨c0, c1, c2⟩ := cells3 q1
      have ql := lt_of_block q1
      have ho : (w1.alloc (.cells #[.int .u8 3] 5)).ownsRow w.heap.size 5 1 (.slice (some ⟨w1.heap.size, 0, none⟩) 1 1) 1 [.int .u8 3] := World.ownsRow_lit w1 #[.int .u8 3] 1 bel.size (by decide) rfl
      have hb1 : Below w.heap.size w (w1.alloc (.cells #[.int .u8 3] 5)) := bel.alloc bel.size _
      go_wp2_with fail
      refine (putText_any s _ (by unfold maxLen; omega)).mono ?_
      rintro e w2 ⟨v2, rfl, r2, o2, b2⟩
      have ho2 := own_below ho b2
      have hb2 := chain hb1 b2
      go_wp2_with (at_builtin; go_loud (refine wpList_app_rd w rfl _ _ 126 rfl w.heap.size 5 i0 (.int .u8 0) 1 Tryd.underlying126 hi hz0 hz1 hz2 rfl _ _ _ rfl ho2 _ _ rfl r2 (by unfold maxLen; omega) (by omega) (Nat.le_refl _) hb2 ?_); intro v' w3 o3 b3)
      go_ret
      refine encR_of (l := 3 :: textL s) ?_ (by simp) b3
      rw [List.length_cons, Nat.add_comm]
      exact o3
end Go.Proofs.YtbdfcgffkonbiaaDoor.V7
