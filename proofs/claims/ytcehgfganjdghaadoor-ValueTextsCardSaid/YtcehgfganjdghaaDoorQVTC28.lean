/- Values: what is joined, how long, the other one, what is shown. Written by wip/tools/gen9q.py. -/
import Derived.Test.YtcehgfganjdghaaDoorQVTC26
import Derived.Test.YtcehgfganjdghaaDoorQVTC27
import Derived.Test.YtcehgfganjdghaaDoorQVTC7
import Derived.Lib.ItoaNum
import Derived.Lib.AppendIntMem
namespace Go.Proofs.YtcehgfganjdghaaDoor.V7
open Go Go.RowKit
set_option linter.unusedVariables false
set_option linter.unusedSimpArgs false
theorem str_cat (a b : List UInt8) : str a ++ str b = str (a ++ b) := by
  apply ByteArray.ext
  simp [str, ByteArray.data_append]
theorem tabIs_below {w w' : World} (h : Lib.TabIs Tryd.prog w "internal/strconv.uint64pow10" .u64 Lib.pow10Tab) (b : Below w.heap.size w w') : Lib.TabIs Tryd.prog w' "internal/strconv.uint64pow10" .u64 Lib.pow10Tab :=
  Lib.tabBelow_of_tabIs h w' b
theorem formatBool_yes (w : World) : Calls Tryd.prog 73 #[.bool true] w fun e w' => e = .returned (.string (str [116, 114, 117, 101])) ∧ Below w.heap.size w w' :=
  (Tryd.strconv_FormatBool true w).mono fun e w' h => ⟨h.1, by rw [h.2]; exact Below.refl _ _⟩
theorem formatBool_no (w : World) : Calls Tryd.prog 73 #[.bool false] w fun e w' => e = .returned (.string (str [102, 97, 108, 115, 101])) ∧ Below w.heap.size w w' :=
  (Tryd.strconv_FormatBool false w).mono fun e w' h => ⟨h.1, by rw [h.2]; exact Below.refl _ _⟩
theorem formatInt_any (n : Int) (h : fits n) (w : World) (tab : Lib.TabIs Tryd.prog w "internal/strconv.uint64pow10" .u64 Lib.pow10Tab) :
    Calls Tryd.prog 74 #[.int .i64 n, .int .i64 10] w fun e w' => e = .returned (.string (str (Lib.itoa n))) ∧ Below w.heap.size w w' := by
  refine (Tryd.strconv_FormatInt_10 n h.1 h.2 w tab).mono ?_
  rintro e w' ⟨he, k, os, rfl⟩
  exact ⟨he, ⟨rfl, rfl, rfl, by simp [Go.Sort.grow], fun b hb => by simp [Go.Sort.grow, Array.getElem?_append_left hb]⟩⟩
def expE1 (K : Int) (a : V) : Int := if mayB a = false then 1 else if a.k ≠ K then 10 else 0
set_option maxRecDepth 100000 in
set_option maxHeartbeats 1000000 in
theorem expect1_any (K : Int) (k i : Int) (s : List UInt8) (hs : s.length ≤ maxLen) (w : World) (B : Nat) (t : TypeId)
    (hB : w.heap[B]? = some (.cells #[.int .i64 k, .int .i64 i, .string (str s)] t (0, 0))) :
    Calls Tryd.prog 68 #[.int .i64 K, .slice (some ⟨B, 0, none⟩) 1 1] w fun e w' => e = .returned (.int .i64 (expE1 K ⟨k, i, s⟩)) ∧ Below w.heap.size w w' := by
  have M1 := fun w => may_any k i s w hs
  unfold expE1
  generalize mayB ⟨k, i, s⟩ = m1 at M1 ⊢
  simp only
  obtain ⟨R, hR⟩ : ∃ R : Int, R = if m1 = false then 1 else if k ≠ K then 10 else 0 := ⟨_, rfl⟩
  rw [← hR]
  have HR := Lib.hid hR
  clear hR
  obtain ⟨e1, he1⟩ : ∃ e1 : Int, e1 = if k ≠ K then 10 else 0 := ⟨_, rfl⟩
  have lB := lt_of_block hB
  have HE := Lib.hid he1
  clear hs he1
  go_enter Tryd.func68, Tryd.ntmps68
  go_wp2_with fail
  go_loopw [5, 10] (fun x j wr => Below w.heap.size w wr ∧ ((x = .int .i64 0 ∧ j = .int .i64 0) ∨ (x = .int .i64 e1 ∧ j = .int .i64 1 ∧ m1 = true)))
    (fun _ j _ => 2 - (intOf j).toNat)
  case atStart => exact ⟨Below.refl _ _, .inl ⟨rfl, rfl⟩⟩
  case round =>
    obtain ⟨bel, hj⟩ := hrel
    have q := (bel.block B lB).trans hB
    obtain ⟨c0, c1, c2⟩ := cells3 q
    have ql := lt_of_block q
    rcases hj with ⟨rfl, rfl⟩ | ⟨rfl, rfl, rfl⟩
    · cases m1 with
      | false =>
        go_wp2_with fail
        refine (M1 _).mono ?_
        rintro e w1 ⟨rfl, g⟩
        go_wp2_with fail
        go_ret
        exact ⟨by rw [HR.out]; simp, (bel.alloc bel.size _).trans (g.mono (by simp; have := bel.size; omega))⟩
      | true =>
        have z1 := heap_alloc_new wr (.cells #[.int .i64 k, .int .i64 i, .string (str s)] 30)
        go_wp2_with fail
        refine (M1 _).mono ?_
        rintro e w1 ⟨rfl, g⟩
        have z2 := (g.block _ (by simp)).trans z1
        obtain ⟨d0, d1, d2⟩ := cells3 z2
        have bel2 := (bel.alloc bel.size (.cells #[.int .i64 k, .int .i64 i, .string (str s)] 30)).trans (g.mono (by simp; have := bel.size; omega))
        clear g z1 z2 c0 c1 c2
        by_cases hk : k = K
        · have e0 : e1 = 0 := by rw [HE.out, if_neg (by simpa using hk)]
          have E0 := Lib.hid e0
          have hk2 : (k != K) = false := by simpa using hk
          clear e0
          go_wp2_with fail
          exact ⟨⟨bel2, .inr ⟨by rw [E0.out], by simp, by simp⟩⟩, by simp [intOf]⟩
        · have e0 : e1 = 10 := by rw [HE.out, if_pos hk]
          have E0 := Lib.hid e0
          have hk2 : (k != K) = true := by simpa using hk
          clear e0
          go_wp2_with fail
          exact ⟨⟨bel2, .inr ⟨by rw [E0.out], by simp, by simp⟩⟩, by simp [intOf]⟩
    · go_wp2_with fail
      go_ret
      exact ⟨by rw [HR.out, if_neg (by simp), ← HE.out]; rfl, bel⟩
set_option maxRecDepth 100000 in
set_option maxHeartbeats 1000000 in
theorem length_err (k i : Int) (s : List UInt8) (hs : s.length ≤ maxLen) (E : Int) (hE : expE1 3 ⟨k, i, s⟩ = E) (h0 : (E != 0) = true) (w : World) :
    Calls Tryd.prog 38 #[.agg #[.int .i64 k, .int .i64 i, .string (str s)]] w fun e w' => e = .returned (.tuple #[.agg #[.int .i64 0, .int .i64 0, .string (str [])], .int .i64 E]) ∧ Below w.heap.size w w' := by
  have X := fun w B hB => expect1_any 3 k i s hs w B 30 hB
  rw [hE] at X
  have HX := Lib.hid X
  clear X hE
  obtain ⟨q1, q3, q4⟩ := three_allocs w (.cells #[.int .i64 k, .int .i64 i, .string (str s)] 30) (.cells #[.int .i64 0, .int .i64 0, .string (str [])] 30) (.cells #[.int .i64 k, .int .i64 i, .string (str s)] 30)
  have bel : Below w.heap.size w (((w.alloc (.cells #[.int .i64 k, .int .i64 i, .string (str s)] 30)).alloc (.cells #[.int .i64 0, .int .i64 0, .string (str [])] 30)).alloc (.cells #[.int .i64 k, .int .i64 i, .string (str s)] 30)) := (((Below.refl _ w).alloc (Nat.le_refl _) _).alloc (by simp) _).alloc (by simp; omega) _
  go_enter Tryd.func38, Tryd.ntmps38
  go_wp2_with fail
  refine (HX.out _ _ q4).mono ?_
  rintro e w1 ⟨rfl, g⟩
  clear q4
  replace q1 := (g.block _ (lt_of_block q1)).trans q1
  replace q3 := (g.block _ (lt_of_block q3)).trans q3
  replace bel := chain bel g
  clear g
  obtain ⟨q1c0, q1c1, q1c2⟩ := cells3 q1
  have q1l := lt_of_block q1
  obtain ⟨q3c0, q3c1, q3c2⟩ := cells3 q3
  have q3l := lt_of_block q3
  have fz := frozen3 q3
  go_wp2_with fail
  obtain ⟨r0, r1, r2, bel2⟩ := set3 (.int .i64 0) (.int .i64 0) (.string (str [])) q3 bel (by omega)
  refine bodyPost_ret (v := .tuple #[.agg #[.int .i64 0, .int .i64 0, .string (str [])], .int .i64 E]) (by simp [results, Tryd.results38, go_sem, r0, r1, r2, str_e]) rfl ⟨rfl, bel2⟩
set_option maxRecDepth 100000 in
set_option maxHeartbeats 1000000 in
theorem length_ok (k i : Int) (s : List UInt8) (hs : s.length ≤ maxLen) (hE : expE1 3 ⟨k, i, s⟩ = 0) (w : World) :
    Calls Tryd.prog 38 #[.agg #[.int .i64 k, .int .i64 i, .string (str s)]] w fun e w' => e = .returned (.tuple #[.agg #[.int .i64 2, .int .i64 (s.length : Int), .string (str [])], .int .i64 0]) ∧ Below w.heap.size w w' := by
  have X := fun w B hB => expect1_any 3 k i s hs w B 30 hB
  rw [hE] at X
  have HX := Lib.hid X
  clear X hE
  have hz : (str s).size = s.length := str_size s
  have hz0 : s.length ≤ maxLen := hs
  unfold maxLen at hz0
  obtain ⟨q1, q3, q4⟩ := three_allocs w (.cells #[.int .i64 k, .int .i64 i, .string (str s)] 30) (.cells #[.int .i64 0, .int .i64 0, .string (str [])] 30) (.cells #[.int .i64 k, .int .i64 i, .string (str s)] 30)
  have bel : Below w.heap.size w (((w.alloc (.cells #[.int .i64 k, .int .i64 i, .string (str s)] 30)).alloc (.cells #[.int .i64 0, .int .i64 0, .string (str [])] 30)).alloc (.cells #[.int .i64 k, .int .i64 i, .string (str s)] 30)) := (((Below.refl _ w).alloc (Nat.le_refl _) _).alloc (by simp) _).alloc (by simp; omega) _
  go_enter Tryd.func38, Tryd.ntmps38
  go_wp2_with fail
  refine (HX.out _ _ q4).mono ?_
  rintro e w1 ⟨rfl, g⟩
  clear q4
  replace q1 := (g.block _ (lt_of_block q1)).trans q1
  replace q3 := (g.block _ (lt_of_block q3)).trans q3
  replace bel := chain bel g
  clear g
  obtain ⟨q1c0, q1c1, q1c2⟩ := cells3 q1
  have q1l := lt_of_block q1
  obtain ⟨q3c0, q3c1, q3c2⟩ := cells3 q3
  have q3l := lt_of_block q3
  go_wp2_with fail
  refine (int_any (s.length : Int) _).mono ?_
  rintro e w1 ⟨rfl, g⟩
  clear q1c0 q1c1 q1c2 q1l
  replace q1 := (g.block _ (lt_of_block q1)).trans q1
  clear q3c0 q3c1 q3c2 q3l
  replace q3 := (g.block _ (lt_of_block q3)).trans q3
  replace bel := chain bel g
  clear g
  obtain ⟨q1c0, q1c1, q1c2⟩ := cells3 q1
  have q1l := lt_of_block q1
  obtain ⟨q3c0, q3c1, q3c2⟩ := cells3 q3
  have q3l := lt_of_block q3
  have fz := frozen3 q3
  go_wp2_with fail
  obtain ⟨r0, r1, r2, bel2⟩ := set3 (.int .i64 2) (.int .i64 (s.length : Int)) (.string (str [])) q3 bel (by omega)
  refine bodyPost_ret (v := .tuple #[.agg #[.int .i64 2, .int .i64 (s.length : Int), .string (str [])], .int .i64 0]) (by simp [results, Tryd.results38, go_sem, r0, r1, r2, str_e]) rfl ⟨rfl, bel2⟩
set_option maxRecDepth 100000 in
set_option maxHeartbeats 1000000 in
theorem not_err (k i : Int) (s : List UInt8) (hs : s.length ≤ maxLen) (E : Int) (hE : expE1 1 ⟨k, i, s⟩ = E) (h0 : (E != 0) = true) (w : World) :
    Calls Tryd.prog 39 #[.agg #[.int .i64 k, .int .i64 i, .string (str s)]] w fun e w' => e = .returned (.tuple #[.agg #[.int .i64 0, .int .i64 0, .string (str [])], .int .i64 E]) ∧ Below w.heap.size w w' := by
  have X := fun w B hB => expect1_any 1 k i s hs w B 30 hB
  rw [hE] at X
  have HX := Lib.hid X
  clear X hE
  obtain ⟨q1, q3, q4⟩ := three_allocs w (.cells #[.int .i64 k, .int .i64 i, .string (str s)] 30) (.cells #[.int .i64 0, .int .i64 0, .string (str [])] 30) (.cells #[.int .i64 k, .int .i64 i, .string (str s)] 30)
  have bel : Below w.heap.size w (((w.alloc (.cells #[.int .i64 k, .int .i64 i, .string (str s)] 30)).alloc (.cells #[.int .i64 0, .int .i64 0, .string (str [])] 30)).alloc (.cells #[.int .i64 k, .int .i64 i, .string (str s)] 30)) := (((Below.refl _ w).alloc (Nat.le_refl _) _).alloc (by simp) _).alloc (by simp; omega) _
  go_enter Tryd.func39, Tryd.ntmps39
  go_wp2_with fail
  refine (HX.out _ _ q4).mono ?_
  rintro e w1 ⟨rfl, g⟩
  clear q4
  replace q1 := (g.block _ (lt_of_block q1)).trans q1
  replace q3 := (g.block _ (lt_of_block q3)).trans q3
  replace bel := chain bel g
  clear g
  obtain ⟨q1c0, q1c1, q1c2⟩ := cells3 q1
  have q1l := lt_of_block q1
  obtain ⟨q3c0, q3c1, q3c2⟩ := cells3 q3
  have q3l := lt_of_block q3
  have fz := frozen3 q3
  go_wp2_with fail
  obtain ⟨r0, r1, r2, bel2⟩ := set3 (.int .i64 0) (.int .i64 0) (.string (str [])) q3 bel (by omega)
  refine bodyPost_ret (v := .tuple #[.agg #[.int .i64 0, .int .i64 0, .string (str [])], .int .i64 E]) (by simp [results, Tryd.results39, go_sem, r0, r1, r2, str_e]) rfl ⟨rfl, bel2⟩
set_option maxRecDepth 100000 in
set_option maxHeartbeats 1000000 in
theorem not_ok (k i : Int) (s : List UInt8) (hs : s.length ≤ maxLen) (b : Bool) (hE : expE1 1 ⟨k, i, s⟩ = 0) (hb : (i == 0) = b) (w : World) :
    Calls Tryd.prog 39 #[.agg #[.int .i64 k, .int .i64 i, .string (str s)]] w fun e w' => e = .returned (.tuple #[.agg #[.int .i64 1, .int .i64 (n01 b), .string (str [])], .int .i64 0]) ∧ Below w.heap.size w w' := by
  have X := fun w B hB => expect1_any 1 k i s hs w B 30 hB
  rw [hE] at X
  have HX := Lib.hid X
  clear X hE
  obtain ⟨q1, q3, q4⟩ := three_allocs w (.cells #[.int .i64 k, .int .i64 i, .string (str s)] 30) (.cells #[.int .i64 0, .int .i64 0, .string (str [])] 30) (.cells #[.int .i64 k, .int .i64 i, .string (str s)] 30)
  have bel : Below w.heap.size w (((w.alloc (.cells #[.int .i64 k, .int .i64 i, .string (str s)] 30)).alloc (.cells #[.int .i64 0, .int .i64 0, .string (str [])] 30)).alloc (.cells #[.int .i64 k, .int .i64 i, .string (str s)] 30)) := (((Below.refl _ w).alloc (Nat.le_refl _) _).alloc (by simp) _).alloc (by simp; omega) _
  go_enter Tryd.func39, Tryd.ntmps39
  go_wp2_with fail
  refine (HX.out _ _ q4).mono ?_
  rintro e w1 ⟨rfl, g⟩
  clear q4
  replace q1 := (g.block _ (lt_of_block q1)).trans q1
  replace q3 := (g.block _ (lt_of_block q3)).trans q3
  replace bel := chain bel g
  clear g
  obtain ⟨q1c0, q1c1, q1c2⟩ := cells3 q1
  have q1l := lt_of_block q1
  obtain ⟨q3c0, q3c1, q3c2⟩ := cells3 q3
  have q3l := lt_of_block q3
  go_wp2_with fail
  refine (bool_n b _).mono ?_
  rintro e w1 ⟨rfl, g⟩
  clear q1c0 q1c1 q1c2 q1l
  replace q1 := (g.block _ (lt_of_block q1)).trans q1
  clear q3c0 q3c1 q3c2 q3l
  replace q3 := (g.block _ (lt_of_block q3)).trans q3
  replace bel := chain bel g
  clear g
  obtain ⟨q1c0, q1c1, q1c2⟩ := cells3 q1
  have q1l := lt_of_block q1
  obtain ⟨q3c0, q3c1, q3c2⟩ := cells3 q3
  have q3l := lt_of_block q3
  have fz := frozen3 q3
  go_wp2_with fail
  obtain ⟨r0, r1, r2, bel2⟩ := set3 (.int .i64 1) (.int .i64 (n01 b)) (.string (str [])) q3 bel (by omega)
  refine bodyPost_ret (v := .tuple #[.agg #[.int .i64 1, .int .i64 (n01 b), .string (str [])], .int .i64 0]) (by simp [results, Tryd.results39, go_sem, r0, r1, r2, str_e]) rfl ⟨rfl, bel2⟩
set_option maxRecDepth 100000 in
set_option maxHeartbeats 1000000 in
theorem join_err (k i : Int) (s : List UInt8) (k' i' : Int) (s' : List UInt8) (hs : s.length ≤ maxLen) (hs' : s'.length ≤ maxLen) (E : Int) (hE : expE 3 ⟨k, i, s⟩ ⟨k', i', s'⟩ = E) (h0 : (E != 0) = true) (w : World) :
    Calls Tryd.prog 37 #[.agg #[.int .i64 k, .int .i64 i, .string (str s)], .agg #[.int .i64 k', .int .i64 i', .string (str s')]] w fun e w' => e = .returned (.tuple #[.agg #[.int .i64 0, .int .i64 0, .string (str [])], .int .i64 E]) ∧ Below w.heap.size w w' := by
  have X := fun w B hB => expect2_any 3 k i s k' i' s' hs hs' w B 30 hB
  rw [hE] at X
  have HX := Lib.hid X
  clear X hE
  obtain ⟨q1, q2, q3, q4⟩ := four_allocs w (.cells #[.int .i64 k, .int .i64 i, .string (str s)] 30) (.cells #[.int .i64 k', .int .i64 i', .string (str s')] 30) (.cells #[.int .i64 0, .int .i64 0, .string (str [])] 30) (.cells #[.int .i64 k, .int .i64 i, .string (str s), .int .i64 k', .int .i64 i', .string (str s')] 30)
  have bel : Below w.heap.size w ((((w.alloc (.cells #[.int .i64 k, .int .i64 i, .string (str s)] 30)).alloc (.cells #[.int .i64 k', .int .i64 i', .string (str s')] 30)).alloc (.cells #[.int .i64 0, .int .i64 0, .string (str [])] 30)).alloc (.cells #[.int .i64 k, .int .i64 i, .string (str s), .int .i64 k', .int .i64 i', .string (str s')] 30)) := ((((Below.refl _ w).alloc (Nat.le_refl _) _).alloc (by simp) _).alloc (by simp; omega) _).alloc (by simp; omega) _
  go_enter Tryd.func37, Tryd.ntmps37
  go_wp2_with fail
  refine (HX.out _ _ q4).mono ?_
  rintro e w1 ⟨rfl, g⟩
  clear q4
  replace q1 := (g.block _ (lt_of_block q1)).trans q1
  replace q2 := (g.block _ (lt_of_block q2)).trans q2
  replace q3 := (g.block _ (lt_of_block q3)).trans q3
  replace bel := chain bel g
  clear g
  obtain ⟨q1c0, q1c1, q1c2⟩ := cells3 q1
  have q1l := lt_of_block q1
  obtain ⟨q2c0, q2c1, q2c2⟩ := cells3 q2
  have q2l := lt_of_block q2
  obtain ⟨q3c0, q3c1, q3c2⟩ := cells3 q3
  have q3l := lt_of_block q3
  have fz := frozen3 q3
  go_wp2_with fail
  obtain ⟨r0, r1, r2, bel2⟩ := set3 (.int .i64 0) (.int .i64 0) (.string (str [])) q3 bel (by omega)
  refine bodyPost_ret (v := .tuple #[.agg #[.int .i64 0, .int .i64 0, .string (str [])], .int .i64 E]) (by simp [results, Tryd.results37, go_sem, r0, r1, r2, str_e]) rfl ⟨rfl, bel2⟩
set_option maxRecDepth 100000 in
set_option maxHeartbeats 1000000 in
theorem join_long (k i : Int) (s : List UInt8) (k' i' : Int) (s' : List UInt8) (hs : s.length ≤ maxLen) (hs' : s'.length ≤ maxLen) (hE : expE 3 ⟨k, i, s⟩ ⟨k', i', s'⟩ = 0) (hl : 64 < (s ++ s').length) (h1 : s.length ≤ 1000) (h2 : s'.length ≤ 1000) (w : World) :
    Calls Tryd.prog 37 #[.agg #[.int .i64 k, .int .i64 i, .string (str s)], .agg #[.int .i64 k', .int .i64 i', .string (str s')]] w fun e w' => e = .returned (.tuple #[.agg #[.int .i64 0, .int .i64 0, .string (str [])], .int .i64 5]) ∧ Below w.heap.size w w' := by
  have X := fun w B hB => expect2_any 3 k i s k' i' s' hs hs' w B 30 hB
  rw [hE] at X
  have HX := Lib.hid X
  clear X hE
  have hcat : ∀ (w : World), (Op.stringOp .add (str s) (str s')).run Tryd.prog w = .ok (.string (str (s ++ s'))) w := fun w => by rw [run_string_add_sum w _ _ (by rw [str_size, str_size]; omega), str_cat]
  have hcat2 : ∀ (w : World), (binOp .add 9 (.string (str s)) (.string (str s'))).run Tryd.prog w = .ok (.string (str (s ++ s'))) w := fun w => by rw [binOp_string_add, run_string_add_sum w _ _ (by rw [str_size, str_size]; omega), str_cat]
  have TX := fun w => text_long (s ++ s') w hl (by rw [List.length_append]; unfold maxLen; omega)
  have HT := Lib.hid TX
  clear TX hl
  obtain ⟨q1, q2, q3, q4⟩ := four_allocs w (.cells #[.int .i64 k, .int .i64 i, .string (str s)] 30) (.cells #[.int .i64 k', .int .i64 i', .string (str s')] 30) (.cells #[.int .i64 0, .int .i64 0, .string (str [])] 30) (.cells #[.int .i64 k, .int .i64 i, .string (str s), .int .i64 k', .int .i64 i', .string (str s')] 30)
  have bel : Below w.heap.size w ((((w.alloc (.cells #[.int .i64 k, .int .i64 i, .string (str s)] 30)).alloc (.cells #[.int .i64 k', .int .i64 i', .string (str s')] 30)).alloc (.cells #[.int .i64 0, .int .i64 0, .string (str [])] 30)).alloc (.cells #[.int .i64 k, .int .i64 i, .string (str s), .int .i64 k', .int .i64 i', .string (str s')] 30)) := ((((Below.refl _ w).alloc (Nat.le_refl _) _).alloc (by simp) _).alloc (by simp; omega) _).alloc (by simp; omega) _
  go_enter Tryd.func37, Tryd.ntmps37
  go_wp2_with fail
  refine (HX.out _ _ q4).mono ?_
  rintro e w1 ⟨rfl, g⟩
  clear q4
  replace q1 := (g.block _ (lt_of_block q1)).trans q1
  replace q2 := (g.block _ (lt_of_block q2)).trans q2
  replace q3 := (g.block _ (lt_of_block q3)).trans q3
  replace bel := chain bel g
  clear g
  obtain ⟨q1c0, q1c1, q1c2⟩ := cells3 q1
  have q1l := lt_of_block q1
  obtain ⟨q2c0, q2c1, q2c2⟩ := cells3 q2
  have q2l := lt_of_block q2
  obtain ⟨q3c0, q3c1, q3c2⟩ := cells3 q3
  have q3l := lt_of_block q3
  go_wp2_with fail
  refine (HT.out _).mono ?_
  rintro e w1 ⟨rfl, g⟩
  clear q1c0 q1c1 q1c2 q1l
  replace q1 := (g.block _ (lt_of_block q1)).trans q1
  clear q2c0 q2c1 q2c2 q2l
  replace q2 := (g.block _ (lt_of_block q2)).trans q2
  clear q3c0 q3c1 q3c2 q3l
  replace q3 := (g.block _ (lt_of_block q3)).trans q3
  replace bel := chain bel g
  clear g
  obtain ⟨q1c0, q1c1, q1c2⟩ := cells3 q1
  have q1l := lt_of_block q1
  obtain ⟨q2c0, q2c1, q2c2⟩ := cells3 q2
  have q2l := lt_of_block q2
  obtain ⟨q3c0, q3c1, q3c2⟩ := cells3 q3
  have q3l := lt_of_block q3
  have fz := frozen3 q3
  go_wp2_with fail
  obtain ⟨r0, r1, r2, bel2⟩ := set3 (.int .i64 0) (.int .i64 0) (.string (str [])) q3 bel (by omega)
  refine bodyPost_ret (v := .tuple #[.agg #[.int .i64 0, .int .i64 0, .string (str [])], .int .i64 5]) (by simp [results, Tryd.results37, go_sem, r0, r1, r2, str_e]) rfl ⟨rfl, bel2⟩
set_option maxRecDepth 100000 in
set_option maxHeartbeats 1000000 in
theorem join_ok (k i : Int) (s : List UInt8) (k' i' : Int) (s' : List UInt8) (hs : s.length ≤ maxLen) (hs' : s'.length ≤ maxLen) (hE : expE 3 ⟨k, i, s⟩ ⟨k', i', s'⟩ = 0) (hl : (s ++ s').length ≤ 64) (h1 : s.length ≤ 1000) (h2 : s'.length ≤ 1000) (w : World) :
    Calls Tryd.prog 37 #[.agg #[.int .i64 k, .int .i64 i, .string (str s)], .agg #[.int .i64 k', .int .i64 i', .string (str s')]] w fun e w' => e = .returned (.tuple #[.agg #[.int .i64 3, .int .i64 0, .string (str (s ++ s'))], .int .i64 0]) ∧ Below w.heap.size w w' := by
  have X := fun w B hB => expect2_any 3 k i s k' i' s' hs hs' w B 30 hB
  rw [hE] at X
  have HX := Lib.hid X
  clear X hE
  have hcat : ∀ (w : World), (Op.stringOp .add (str s) (str s')).run Tryd.prog w = .ok (.string (str (s ++ s'))) w := fun w => by rw [run_string_add_sum w _ _ (by rw [str_size, str_size]; omega), str_cat]
  have hcat2 : ∀ (w : World), (binOp .add 9 (.string (str s)) (.string (str s'))).run Tryd.prog w = .ok (.string (str (s ++ s'))) w := fun w => by rw [binOp_string_add, run_string_add_sum w _ _ (by rw [str_size, str_size]; omega), str_cat]
  have TX := fun w => text_short (s ++ s') w hl
  have HT := Lib.hid TX
  clear TX hl
  obtain ⟨q1, q2, q3, q4⟩ := four_allocs w (.cells #[.int .i64 k, .int .i64 i, .string (str s)] 30) (.cells #[.int .i64 k', .int .i64 i', .string (str s')] 30) (.cells #[.int .i64 0, .int .i64 0, .string (str [])] 30) (.cells #[.int .i64 k, .int .i64 i, .string (str s), .int .i64 k', .int .i64 i', .string (str s')] 30)
  have bel : Below w.heap.size w ((((w.alloc (.cells #[.int .i64 k, .int .i64 i, .string (str s)] 30)).alloc (.cells #[.int .i64 k', .int .i64 i', .string (str s')] 30)).alloc (.cells #[.int .i64 0, .int .i64 0, .string (str [])] 30)).alloc (.cells #[.int .i64 k, .int .i64 i, .string (str s), .int .i64 k', .int .i64 i', .string (str s')] 30)) := ((((Below.refl _ w).alloc (Nat.le_refl _) _).alloc (by simp) _).alloc (by simp; omega) _).alloc (by simp; omega) _
  go_enter Tryd.func37, Tryd.ntmps37
  go_wp2_with fail
  refine (HX.out _ _ q4).mono ?_
  rintro e w1 ⟨rfl, g⟩
  clear q4
  replace q1 := (g.block _ (lt_of_block q1)).trans q1
  replace q2 := (g.block _ (lt_of_block q2)).trans q2
  replace q3 := (g.block _ (lt_of_block q3)).trans q3
  replace bel := chain bel g
  clear g
  obtain ⟨q1c0, q1c1, q1c2⟩ := cells3 q1
  have q1l := lt_of_block q1
  obtain ⟨q2c0, q2c1, q2c2⟩ := cells3 q2
  have q2l := lt_of_block q2
  obtain ⟨q3c0, q3c1, q3c2⟩ := cells3 q3
  have q3l := lt_of_block q3
  go_wp2_with fail
  refine (HT.out _).mono ?_
  rintro e w1 ⟨rfl, g⟩
  clear q1c0 q1c1 q1c2 q1l
  replace q1 := (g.block _ (lt_of_block q1)).trans q1
  clear q2c0 q2c1 q2c2 q2l
  replace q2 := (g.block _ (lt_of_block q2)).trans q2
  clear q3c0 q3c1 q3c2 q3l
  replace q3 := (g.block _ (lt_of_block q3)).trans q3
  replace bel := chain bel g
  clear g
  obtain ⟨q1c0, q1c1, q1c2⟩ := cells3 q1
  have q1l := lt_of_block q1
  obtain ⟨q2c0, q2c1, q2c2⟩ := cells3 q2
  have q2l := lt_of_block q2
  obtain ⟨q3c0, q3c1, q3c2⟩ := cells3 q3
  have q3l := lt_of_block q3
  have fz := frozen3 q3
  go_wp2_with fail
  obtain ⟨r0, r1, r2, bel2⟩ := set3 (.int .i64 3) (.int .i64 0) (.string (str (s ++ s'))) q3 bel (by omega)
  refine bodyPost_ret (v := .tuple #[.agg #[.int .i64 3, .int .i64 0, .string (str (s ++ s'))], .int .i64 0]) (by simp [results, Tryd.results37, go_sem, r0, r1, r2, str_e]) rfl ⟨rfl, bel2⟩
set_option maxRecDepth 100000 in
set_option maxHeartbeats 1000000 in
theorem show_err (k i : Int) (s : List UInt8) (hs : s.length ≤ maxLen) (hm : mayB ⟨k, i, s⟩ = false) (w : World) :
    Calls Tryd.prog 40 #[.agg #[.int .i64 k, .int .i64 i, .string (str s)]] w fun e w' => e = .returned (.tuple #[.agg #[.int .i64 0, .int .i64 0, .string (str [])], .int .i64 1]) ∧ Below w.heap.size w w' := by
  have M := fun w => may_any k i s w hs
  rw [hm] at M
  obtain ⟨q1, q3, -, -⟩ := two_allocs w (.cells #[.int .i64 k, .int .i64 i, .string (str s)] 30) (.cells #[.int .i64 0, .int .i64 0, .string (ByteArray.mk #[])] 30)
  have bel : Below w.heap.size w ((w.alloc (.cells #[.int .i64 k, .int .i64 i, .string (str s)] 30)).alloc (.cells #[.int .i64 0, .int .i64 0, .string (ByteArray.mk #[])] 30)) := ((Below.refl _ w).alloc (Nat.le_refl _) _).alloc (by simp) _
  obtain ⟨W0, hW0⟩ : ∃ W0, W0 = (w.alloc (.cells #[.int .i64 k, .int .i64 i, .string (str s)] 30)).alloc (.cells #[.int .i64 0, .int .i64 0, .string (ByteArray.mk #[])] 30) := ⟨_, rfl⟩
  clear hm
  go_enter Tryd.func40, Tryd.ntmps40
  go_wp2_with fail
  rw [← hW0] at q1 q3 bel ⊢
  clear hW0
  obtain ⟨q1c0, q1c1, q1c2⟩ := cells3 q1
  have q1l := lt_of_block q1
  obtain ⟨q3c0, q3c1, q3c2⟩ := cells3 q3
  have q3l := lt_of_block q3
  refine (M _).mono ?_
  rintro e w1 ⟨rfl, g⟩
  clear q1c0 q1c1 q1c2 q1l
  replace q1 := (g.block _ (lt_of_block q1)).trans q1
  clear q3c0 q3c1 q3c2 q3l
  replace q3 := (g.block _ (lt_of_block q3)).trans q3
  replace bel := chain bel g
  clear g
  obtain ⟨q1c0, q1c1, q1c2⟩ := cells3 q1
  have q1l := lt_of_block q1
  obtain ⟨q3c0, q3c1, q3c2⟩ := cells3 q3
  have q3l := lt_of_block q3
  have fz := frozen3 q3
  go_wp2_with fail
  obtain ⟨r0, r1, r2, bel2⟩ := set3 (.int .i64 0) (.int .i64 0) (.string (str [])) q3 bel (by omega)
  refine bodyPost_ret (v := .tuple #[.agg #[.int .i64 0, .int .i64 0, .string (str [])], .int .i64 1]) (by simp [results, Tryd.results40, go_sem, r0, r1, r2, str_e]) rfl ⟨rfl, bel2⟩
set_option maxRecDepth 100000 in
set_option maxHeartbeats 1000000 in
theorem show_nil (hm : mayB ⟨0, 0, []⟩ = true) (w : World) :
    Calls Tryd.prog 40 #[.agg #[.int .i64 0, .int .i64 0, .string (str [])]] w fun e w' => e = .returned (.tuple #[.agg #[.int .i64 3, .int .i64 0, .string (str [110, 105, 108])], .int .i64 0]) ∧ Below w.heap.size w w' := by
  have M := fun w => may_any 0 0 [] w (by decide)
  rw [hm] at M
  have TX := fun w => text_short [110, 105, 108] w (by decide)
  have HT := Lib.hid TX
  clear TX
  obtain ⟨q1, q3, -, -⟩ := two_allocs w (.cells #[.int .i64 0, .int .i64 0, .string (str [])] 30) (.cells #[.int .i64 0, .int .i64 0, .string (ByteArray.mk #[])] 30)
  have bel : Below w.heap.size w ((w.alloc (.cells #[.int .i64 0, .int .i64 0, .string (str [])] 30)).alloc (.cells #[.int .i64 0, .int .i64 0, .string (ByteArray.mk #[])] 30)) := ((Below.refl _ w).alloc (Nat.le_refl _) _).alloc (by simp) _
  obtain ⟨W0, hW0⟩ : ∃ W0, W0 = (w.alloc (.cells #[.int .i64 0, .int .i64 0, .string (str [])] 30)).alloc (.cells #[.int .i64 0, .int .i64 0, .string (ByteArray.mk #[])] 30) := ⟨_, rfl⟩
  clear hm
  go_enter Tryd.func40, Tryd.ntmps40
  go_wp2_with fail
  rw [← hW0] at q1 q3 bel ⊢
  clear hW0
  obtain ⟨q1c0, q1c1, q1c2⟩ := cells3 q1
  have q1l := lt_of_block q1
  obtain ⟨q3c0, q3c1, q3c2⟩ := cells3 q3
  have q3l := lt_of_block q3
  refine (M _).mono ?_
  rintro e w1 ⟨rfl, g⟩
  clear q1c0 q1c1 q1c2 q1l
  replace q1 := (g.block _ (lt_of_block q1)).trans q1
  clear q3c0 q3c1 q3c2 q3l
  replace q3 := (g.block _ (lt_of_block q3)).trans q3
  replace bel := chain bel g
  clear g
  obtain ⟨q1c0, q1c1, q1c2⟩ := cells3 q1
  have q1l := lt_of_block q1
  obtain ⟨q3c0, q3c1, q3c2⟩ := cells3 q3
  have q3l := lt_of_block q3
  go_wp2_with fail
  refine (HT.out _).mono ?_
  rintro e w2 ⟨rfl, g⟩
  clear q1c0 q1c1 q1c2 q1l
  replace q1 := (g.block _ (lt_of_block q1)).trans q1
  clear q3c0 q3c1 q3c2 q3l
  replace q3 := (g.block _ (lt_of_block q3)).trans q3
  replace bel := chain bel g
  clear g
  obtain ⟨q1c0, q1c1, q1c2⟩ := cells3 q1
  have q1l := lt_of_block q1
  obtain ⟨q3c0, q3c1, q3c2⟩ := cells3 q3
  have q3l := lt_of_block q3
  have fz := frozen3 q3
  go_wp2_with fail
  obtain ⟨r0, r1, r2, bel2⟩ := set3 (.int .i64 3) (.int .i64 0) (.string (str [110, 105, 108])) q3 bel (by omega)
  refine bodyPost_ret (v := .tuple #[.agg #[.int .i64 3, .int .i64 0, .string (str [110, 105, 108])], .int .i64 0]) (by simp [results, Tryd.results40, go_sem, r0, r1, r2, str_e]) rfl ⟨rfl, bel2⟩
set_option maxRecDepth 100000 in
set_option maxHeartbeats 1000000 in
theorem show_text (s : List UInt8) (hs : s.length ≤ maxLen) (hm : mayB ⟨3, 0, s⟩ = true) (w : World) :
    Calls Tryd.prog 40 #[.agg #[.int .i64 3, .int .i64 0, .string (str s)]] w fun e w' => e = .returned (.tuple #[.agg #[.int .i64 3, .int .i64 0, .string (str s)], .int .i64 0]) ∧ Below w.heap.size w w' := by
  have M := fun w => may_any 3 0 s w hs
  rw [hm] at M
  obtain ⟨q1, q3, -, -⟩ := two_allocs w (.cells #[.int .i64 3, .int .i64 0, .string (str s)] 30) (.cells #[.int .i64 0, .int .i64 0, .string (ByteArray.mk #[])] 30)
  have bel : Below w.heap.size w ((w.alloc (.cells #[.int .i64 3, .int .i64 0, .string (str s)] 30)).alloc (.cells #[.int .i64 0, .int .i64 0, .string (ByteArray.mk #[])] 30)) := ((Below.refl _ w).alloc (Nat.le_refl _) _).alloc (by simp) _
  obtain ⟨W0, hW0⟩ : ∃ W0, W0 = (w.alloc (.cells #[.int .i64 3, .int .i64 0, .string (str s)] 30)).alloc (.cells #[.int .i64 0, .int .i64 0, .string (ByteArray.mk #[])] 30) := ⟨_, rfl⟩
  clear hm
  go_enter Tryd.func40, Tryd.ntmps40
  go_wp2_with fail
  rw [← hW0] at q1 q3 bel ⊢
  clear hW0
  obtain ⟨q1c0, q1c1, q1c2⟩ := cells3 q1
  have q1l := lt_of_block q1
  obtain ⟨q3c0, q3c1, q3c2⟩ := cells3 q3
  have q3l := lt_of_block q3
  refine (M _).mono ?_
  rintro e w1 ⟨rfl, g⟩
  clear q1c0 q1c1 q1c2 q1l
  replace q1 := (g.block _ (lt_of_block q1)).trans q1
  clear q3c0 q3c1 q3c2 q3l
  replace q3 := (g.block _ (lt_of_block q3)).trans q3
  replace bel := chain bel g
  clear g
  obtain ⟨q1c0, q1c1, q1c2⟩ := cells3 q1
  have q1l := lt_of_block q1
  obtain ⟨q3c0, q3c1, q3c2⟩ := cells3 q3
  have q3l := lt_of_block q3
  have fz := frozen3 q3
  go_wp2_with fail
  obtain ⟨r0, r1, r2, bel2⟩ := set3 (.int .i64 3) (.int .i64 0) (.string (str s)) q3 bel (by omega)
  refine bodyPost_ret (v := .tuple #[.agg #[.int .i64 3, .int .i64 0, .string (str s)], .int .i64 0]) (by simp [results, Tryd.results40, go_sem, r0, r1, r2, str_e]) rfl ⟨rfl, bel2⟩
set_option maxRecDepth 100000 in
set_option maxHeartbeats 1000000 in
theorem show_int (i : Int) (hm : mayB ⟨2, i, []⟩ = true) (hi : fits i) (hl : (Lib.itoa i).length ≤ 64) (w : World) (tab : Lib.TabIs Tryd.prog w "internal/strconv.uint64pow10" .u64 Lib.pow10Tab) :
    Calls Tryd.prog 40 #[.agg #[.int .i64 2, .int .i64 i, .string (str [])]] w fun e w' => e = .returned (.tuple #[.agg #[.int .i64 3, .int .i64 0, .string (str (Lib.itoa i))], .int .i64 0]) ∧ Below w.heap.size w w' := by
  have M := fun w => may_any 2 i [] w (by decide)
  rw [hm] at M
  have FI := fun w tab => formatInt_any i hi w tab
  have TX := fun w => text_short (Lib.itoa i) w hl
  have HT := Lib.hid TX
  clear TX
  obtain ⟨q1, q3, -, -⟩ := two_allocs w (.cells #[.int .i64 2, .int .i64 i, .string (str [])] 30) (.cells #[.int .i64 0, .int .i64 0, .string (ByteArray.mk #[])] 30)
  have bel : Below w.heap.size w ((w.alloc (.cells #[.int .i64 2, .int .i64 i, .string (str [])] 30)).alloc (.cells #[.int .i64 0, .int .i64 0, .string (ByteArray.mk #[])] 30)) := ((Below.refl _ w).alloc (Nat.le_refl _) _).alloc (by simp) _
  obtain ⟨W0, hW0⟩ : ∃ W0, W0 = (w.alloc (.cells #[.int .i64 2, .int .i64 i, .string (str [])] 30)).alloc (.cells #[.int .i64 0, .int .i64 0, .string (ByteArray.mk #[])] 30) := ⟨_, rfl⟩
  clear hm
  go_enter Tryd.func40, Tryd.ntmps40
  go_wp2_with fail
  rw [← hW0] at q1 q3 bel ⊢
  clear hW0
  obtain ⟨q1c0, q1c1, q1c2⟩ := cells3 q1
  have q1l := lt_of_block q1
  obtain ⟨q3c0, q3c1, q3c2⟩ := cells3 q3
  have q3l := lt_of_block q3
  refine (M _).mono ?_
  rintro e w1 ⟨rfl, g⟩
  clear q1c0 q1c1 q1c2 q1l
  replace q1 := (g.block _ (lt_of_block q1)).trans q1
  clear q3c0 q3c1 q3c2 q3l
  replace q3 := (g.block _ (lt_of_block q3)).trans q3
  replace bel := chain bel g
  clear g
  obtain ⟨q1c0, q1c1, q1c2⟩ := cells3 q1
  have q1l := lt_of_block q1
  obtain ⟨q3c0, q3c1, q3c2⟩ := cells3 q3
  have q3l := lt_of_block q3
  go_wp2_with fail
  refine (FI _ (tabIs_below tab bel)).mono ?_
  rintro e w2 ⟨rfl, g⟩
  clear q1c0 q1c1 q1c2 q1l
  replace q1 := (g.block _ (lt_of_block q1)).trans q1
  clear q3c0 q3c1 q3c2 q3l
  replace q3 := (g.block _ (lt_of_block q3)).trans q3
  replace bel := chain bel g
  clear g
  obtain ⟨q1c0, q1c1, q1c2⟩ := cells3 q1
  have q1l := lt_of_block q1
  obtain ⟨q3c0, q3c1, q3c2⟩ := cells3 q3
  have q3l := lt_of_block q3
  go_wp2_with fail
  refine (HT.out _).mono ?_
  rintro e w3 ⟨rfl, g⟩
  clear q1c0 q1c1 q1c2 q1l
  replace q1 := (g.block _ (lt_of_block q1)).trans q1
  clear q3c0 q3c1 q3c2 q3l
  replace q3 := (g.block _ (lt_of_block q3)).trans q3
  replace bel := chain bel g
  clear g
  obtain ⟨q1c0, q1c1, q1c2⟩ := cells3 q1
  have q1l := lt_of_block q1
  obtain ⟨q3c0, q3c1, q3c2⟩ := cells3 q3
  have q3l := lt_of_block q3
  have fz := frozen3 q3
  go_wp2_with fail
  obtain ⟨r0, r1, r2, bel2⟩ := set3 (.int .i64 3) (.int .i64 0) (.string (str (Lib.itoa i))) q3 bel (by omega)
  refine bodyPost_ret (v := .tuple #[.agg #[.int .i64 3, .int .i64 0, .string (str (Lib.itoa i))], .int .i64 0]) (by simp [results, Tryd.results40, go_sem, r0, r1, r2, str_e]) rfl ⟨rfl, bel2⟩
set_option maxRecDepth 100000 in
set_option maxHeartbeats 1000000 in
theorem show_yes (hm : mayB ⟨1, 1, []⟩ = true) (w : World) :
    Calls Tryd.prog 40 #[.agg #[.int .i64 1, .int .i64 1, .string (str [])]] w fun e w' => e = .returned (.tuple #[.agg #[.int .i64 3, .int .i64 0, .string (str [116, 114, 117, 101])], .int .i64 0]) ∧ Below w.heap.size w w' := by
  have M := fun w => may_any 1 1 [] w (by decide)
  rw [hm] at M
  have FB := formatBool_yes
  have TX := fun w => text_short [116, 114, 117, 101] w (by decide)
  have HT := Lib.hid TX
  clear TX
  obtain ⟨q1, q3, -, -⟩ := two_allocs w (.cells #[.int .i64 1, .int .i64 1, .string (str [])] 30) (.cells #[.int .i64 0, .int .i64 0, .string (ByteArray.mk #[])] 30)
  have bel : Below w.heap.size w ((w.alloc (.cells #[.int .i64 1, .int .i64 1, .string (str [])] 30)).alloc (.cells #[.int .i64 0, .int .i64 0, .string (ByteArray.mk #[])] 30)) := ((Below.refl _ w).alloc (Nat.le_refl _) _).alloc (by simp) _
  obtain ⟨W0, hW0⟩ : ∃ W0, W0 = (w.alloc (.cells #[.int .i64 1, .int .i64 1, .string (str [])] 30)).alloc (.cells #[.int .i64 0, .int .i64 0, .string (ByteArray.mk #[])] 30) := ⟨_, rfl⟩
  clear hm
  go_enter Tryd.func40, Tryd.ntmps40
  go_wp2_with fail
  rw [← hW0] at q1 q3 bel ⊢
  clear hW0
  obtain ⟨q1c0, q1c1, q1c2⟩ := cells3 q1
  have q1l := lt_of_block q1
  obtain ⟨q3c0, q3c1, q3c2⟩ := cells3 q3
  have q3l := lt_of_block q3
  refine (M _).mono ?_
  rintro e w1 ⟨rfl, g⟩
  clear q1c0 q1c1 q1c2 q1l
  replace q1 := (g.block _ (lt_of_block q1)).trans q1
  clear q3c0 q3c1 q3c2 q3l
  replace q3 := (g.block _ (lt_of_block q3)).trans q3
  replace bel := chain bel g
  clear g
  obtain ⟨q1c0, q1c1, q1c2⟩ := cells3 q1
  have q1l := lt_of_block q1
  obtain ⟨q3c0, q3c1, q3c2⟩ := cells3 q3
  have q3l := lt_of_block q3
  go_wp2_with fail
  refine (FB _).mono ?_
  rintro e w2 ⟨rfl, g⟩
  clear q1c0 q1c1 q1c2 q1l
  replace q1 := (g.block _ (lt_of_block q1)).trans q1
  clear q3c0 q3c1 q3c2 q3l
  replace q3 := (g.block _ (lt_of_block q3)).trans q3
  replace bel := chain bel g
  clear g
  obtain ⟨q1c0, q1c1, q1c2⟩ := cells3 q1
  have q1l := lt_of_block q1
  obtain ⟨q3c0, q3c1, q3c2⟩ := cells3 q3
  have q3l := lt_of_block q3
  go_wp2_with fail
  refine (HT.out _).mono ?_
  rintro e w3 ⟨rfl, g⟩
  clear q1c0 q1c1 q1c2 q1l
  replace q1 := (g.block _ (lt_of_block q1)).trans q1
  clear q3c0 q3c1 q3c2 q3l
  replace q3 := (g.block _ (lt_of_block q3)).trans q3
  replace bel := chain bel g
  clear g
  obtain ⟨q1c0, q1c1, q1c2⟩ := cells3 q1
  have q1l := lt_of_block q1
  obtain ⟨q3c0, q3c1, q3c2⟩ := cells3 q3
  have q3l := lt_of_block q3
  have fz := frozen3 q3
  go_wp2_with fail
  obtain ⟨r0, r1, r2, bel2⟩ := set3 (.int .i64 3) (.int .i64 0) (.string (str [116, 114, 117, 101])) q3 bel (by omega)
  refine bodyPost_ret (v := .tuple #[.agg #[.int .i64 3, .int .i64 0, .string (str [116, 114, 117, 101])], .int .i64 0]) (by simp [results, Tryd.results40, go_sem, r0, r1, r2, str_e]) rfl ⟨rfl, bel2⟩
set_option maxRecDepth 100000 in
set_option maxHeartbeats 1000000 in
theorem show_no (hm : mayB ⟨1, 0, []⟩ = true) (w : World) :
    Calls Tryd.prog 40 #[.agg #[.int .i64 1, .int .i64 0, .string (str [])]] w fun e w' => e = .returned (.tuple #[.agg #[.int .i64 3, .int .i64 0, .string (str [102, 97, 108, 115, 101])], .int .i64 0]) ∧ Below w.heap.size w w' := by
  have M := fun w => may_any 1 0 [] w (by decide)
  rw [hm] at M
  have FB := formatBool_no
  have TX := fun w => text_short [102, 97, 108, 115, 101] w (by decide)
  have HT := Lib.hid TX
  clear TX
  obtain ⟨q1, q3, -, -⟩ := two_allocs w (.cells #[.int .i64 1, .int .i64 0, .string (str [])] 30) (.cells #[.int .i64 0, .int .i64 0, .string (ByteArray.mk #[])] 30)
  have bel : Below w.heap.size w ((w.alloc (.cells #[.int .i64 1, .int .i64 0, .string (str [])] 30)).alloc (.cells #[.int .i64 0, .int .i64 0, .string (ByteArray.mk #[])] 30)) := ((Below.refl _ w).alloc (Nat.le_refl _) _).alloc (by simp) _
  obtain ⟨W0, hW0⟩ : ∃ W0, W0 = (w.alloc (.cells #[.int .i64 1, .int .i64 0, .string (str [])] 30)).alloc (.cells #[.int .i64 0, .int .i64 0, .string (ByteArray.mk #[])] 30) := ⟨_, rfl⟩
  clear hm
  go_enter Tryd.func40, Tryd.ntmps40
  go_wp2_with fail
  rw [← hW0] at q1 q3 bel ⊢
  clear hW0
  obtain ⟨q1c0, q1c1, q1c2⟩ := cells3 q1
  have q1l := lt_of_block q1
  obtain ⟨q3c0, q3c1, q3c2⟩ := cells3 q3
  have q3l := lt_of_block q3
  refine (M _).mono ?_
  rintro e w1 ⟨rfl, g⟩
  clear q1c0 q1c1 q1c2 q1l
  replace q1 := (g.block _ (lt_of_block q1)).trans q1
  clear q3c0 q3c1 q3c2 q3l
  replace q3 := (g.block _ (lt_of_block q3)).trans q3
  replace bel := chain bel g
  clear g
  obtain ⟨q1c0, q1c1, q1c2⟩ := cells3 q1
  have q1l := lt_of_block q1
  obtain ⟨q3c0, q3c1, q3c2⟩ := cells3 q3
  have q3l := lt_of_block q3
  go_wp2_with fail
  refine (FB _).mono ?_
  rintro e w2 ⟨rfl, g⟩
  clear q1c0 q1c1 q1c2 q1l
  replace q1 := (g.block _ (lt_of_block q1)).trans q1
  clear q3c0 q3c1 q3c2 q3l
  replace q3 := (g.block _ (lt_of_block q3)).trans q3
  replace bel := chain bel g
  clear g
  obtain ⟨q1c0, q1c1, q1c2⟩ := cells3 q1
  have q1l := lt_of_block q1
  obtain ⟨q3c0, q3c1, q3c2⟩ := cells3 q3
  have q3l := lt_of_block q3
  go_wp2_with fail
  refine (HT.out _).mono ?_
  rintro e w3 ⟨rfl, g⟩
  clear q1c0 q1c1 q1c2 q1l
  replace q1 := (g.block _ (lt_of_block q1)).trans q1
  clear q3c0 q3c1 q3c2 q3l
  replace q3 := (g.block _ (lt_of_block q3)).trans q3
  replace bel := chain bel g
  clear g
  obtain ⟨q1c0, q1c1, q1c2⟩ := cells3 q1
  have q1l := lt_of_block q1
  obtain ⟨q3c0, q3c1, q3c2⟩ := cells3 q3
  have q3l := lt_of_block q3
  have fz := frozen3 q3
  go_wp2_with fail
  obtain ⟨r0, r1, r2, bel2⟩ := set3 (.int .i64 3) (.int .i64 0) (.string (str [102, 97, 108, 115, 101])) q3 bel (by omega)
  refine bodyPost_ret (v := .tuple #[.agg #[.int .i64 3, .int .i64 0, .string (str [102, 97, 108, 115, 101])], .int .i64 0]) (by simp [results, Tryd.results40, go_sem, r0, r1, r2, str_e]) rfl ⟨rfl, bel2⟩
end Go.Proofs.YtcehgfganjdghaaDoor.V7
