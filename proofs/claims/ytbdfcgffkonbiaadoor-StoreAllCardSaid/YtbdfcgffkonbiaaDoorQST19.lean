/- Values: their bytes. Written by wip/tools/gen7k.py. -/
/- Leaves: Weight, the encoding of a chunk. Written by wip/tools/gen9h.py. -/
/- Trunks: Count, Weight; which buckets are unlike. Written by wip/tools/gen10h.py. -/
import Derived.Test.YtbdfcgffkonbiaaDoorQST18
import Derived.Test.YtbdfcgffkonbiaaDoorQST7
import Derived.Test.YtbdfcgffkonbiaaDoorQST4
import Derived.Maps.AppendAt
import Derived.Test.YtbdfcgffkonbiaaDoorQST17
namespace Go.Proofs.YtbdfcgffkonbiaaDoor.V7
open Go Go.RowKit
set_option linter.unusedVariables false
set_option linter.unusedSimpArgs false
/-- A value's bytes; none, if it may not be. -/
def encL (a : V) : List UInt8 := if mayB a = false then [] else if a.k = 1 then [1, if a.i = 0 then 0 else 1] else if a.k = 2 then 2 :: putL (zigN a.i) else if a.k = 3 then 3 :: textL a.s else [0]
def EncR (w : World) (l : List UInt8) (e : Ending) (w' : World) : Prop := ∃ v, e = .returned v ∧ Rd w' v l ∧ w'.ownsRow w.heap.size 5 1 v l.length (l.map bv) ∧ Below w.heap.size w w'
theorem encR_of {w w' : World} {v : Value} {l : List UInt8} (ho : w'.ownsRow w.heap.size 5 1 v l.length (l.map bv)) (hl : 0 < l.length) (hb : Below w.heap.size w w') : EncR w l (.returned v) w' := by
  obtain ⟨g, cap, rfl, _, _⟩ := slice_of_own ho hl
  exact ⟨_, rfl, own_rd ho, ho, hb⟩
theorem own_below {w w' : World} {b : Nat} {e : TypeId} {size : Nat} {v : Value} {n : Nat} {xs : List Value} (h : w.ownsRow b e size v n xs) (hb : Below w.heap.size w w') : w'.ownsRow b e size v n xs := by
  refine ⟨h.1, ?_⟩
  rcases h.2 with h1 | ⟨g, cap, cur, rfl, h2, h3, h4⟩
  · exact .inl h1
  · exact .inr ⟨g, cap, cur, rfl, h2, (hb.block g (lt_of_block h3)).trans h3, h4⟩
theorem textL_len (s : List UInt8) (h : s.length ≤ 64) : (textL s).length ≤ 74 := by
  unfold textL
  rw [if_pos (by omega), List.length_append]
  have := (putL_len s.length).2
  omega
set_option maxRecDepth 100000 in
set_option maxHeartbeats 1000000 in
theorem encode_any (k i : Int) (s : List UInt8) (w : World) (hs : s.length ≤ maxLen) (hI : I64 i) :
    Calls Tryd.prog 113 #[.agg #[.int .i64 k, .int .i64 i, .string (str s)]] w (EncR w (encL ⟨k, i, s⟩)) := by
  obtain ⟨i0, hi, hz0, hz1, hz2⟩ := info_parts u8info
  have M := fun w => may_any k i s w hs
  cases hm : mayB ⟨k, i, s⟩ with
  | false =>
    have e : encL ⟨k, i, s⟩ = [] := by unfold encL; rw [if_pos hm]
    rw [e]
    rw [hm] at M
    clear e hm hs hI
    obtain ⟨q1, bel⟩ : (w.alloc (.cells #[.int .i64 k, .int .i64 i, .string (str s)] 43)).heap[w.heap.size]? = some (.cells #[.int .i64 k, .int .i64 i, .string (str s)] 43) ∧ Below w.heap.size w (w.alloc (.cells #[.int .i64 k, .int .i64 i, .string (str s)] 43)) := ⟨heap_alloc_new _ _, (Below.refl _ _).alloc (Nat.le_refl _) _⟩
    go_enter Tryd.func113, Tryd.ntmps113
    go_wp2_with fail
    refine (M _).mono ?_
    rintro e w1 ⟨rfl, g⟩
    replace q1 := (g.block _ (lt_of_block q1)).trans q1
    replace bel := chain bel g
    clear g
    obtain ⟨c0, c1, c2⟩ := cells3 q1
    have ql := lt_of_block q1
    go_wp2_with fail
    go_ret
    exact ⟨_, rfl, rd_nil _, World.ownsRow_nil _ _ _ _, bel⟩
  | true =>
    have hc := hm
    simp only [mayB, decide_eq_true_eq] at hc
    rw [hm] at M
    rcases hc with ⟨rfl, rfl, rfl⟩ | ⟨rfl, h2, rfl⟩ | ⟨rfl, rfl⟩ | ⟨rfl, rfl, h3⟩
    · have e : encL ⟨0, 0, []⟩ = [0] := by decide
      rw [e]
      clear e hm hs hI
      obtain ⟨q1, bel⟩ : (w.alloc (.cells #[.int .i64 0, .int .i64 0, .string (str [])] 43)).heap[w.heap.size]? = some (.cells #[.int .i64 0, .int .i64 0, .string (str [])] 43) ∧ Below w.heap.size w (w.alloc (.cells #[.int .i64 0, .int .i64 0, .string (str [])] 43)) := ⟨heap_alloc_new _ _, (Below.refl _ _).alloc (Nat.le_refl _) _⟩
      go_enter Tryd.func113, Tryd.ntmps113
      go_wp2_with fail
      refine (M _).mono ?_
      rintro e w1 ⟨rfl, g⟩
      replace q1 := (g.block _ (lt_of_block q1)).trans q1
      replace bel := chain bel g
      clear g
      obtain ⟨c0, c1, c2⟩ := cells3 q1
      have ql := lt_of_block q1
      have ho : (w1.alloc (.cells #[.int .u8 0] 5)).ownsRow w.heap.size 5 1 (.slice (some ⟨w1.heap.size, 0, none⟩) 1 1) 1 [.int .u8 0] := World.ownsRow_lit w1 #[.int .u8 0] 1 bel.size (by decide) rfl
      have hb1 : Below w.heap.size w (w1.alloc (.cells #[.int .u8 0] 5)) := bel.alloc bel.size _
      go_wp2_with fail
      go_ret
      exact encR_of (l := [0]) ho (by decide) hb1
    · rcases h2 with rfl | rfl
      · have e : encL ⟨1, 0, []⟩ = [1, 0] := by decide
        rw [e]
        clear e hm hs hI
        obtain ⟨q1, bel⟩ : (w.alloc (.cells #[.int .i64 1, .int .i64 0, .string (str [])] 43)).heap[w.heap.size]? = some (.cells #[.int .i64 1, .int .i64 0, .string (str [])] 43) ∧ Below w.heap.size w (w.alloc (.cells #[.int .i64 1, .int .i64 0, .string (str [])] 43)) := ⟨heap_alloc_new _ _, (Below.refl _ _).alloc (Nat.le_refl _) _⟩
        go_enter Tryd.func113, Tryd.ntmps113
        go_wp2_with fail
        refine (M _).mono ?_
        rintro e w1 ⟨rfl, g⟩
        replace q1 := (g.block _ (lt_of_block q1)).trans q1
        replace bel := chain bel g
        clear g
        obtain ⟨c0, c1, c2⟩ := cells3 q1
        have ql := lt_of_block q1
        have ho : (w1.alloc (.cells #[.int .u8 1] 5)).ownsRow w.heap.size 5 1 (.slice (some ⟨w1.heap.size, 0, none⟩) 1 1) 1 [.int .u8 1] := World.ownsRow_lit w1 #[.int .u8 1] 1 bel.size (by decide) rfl
        have hb1 : Below w.heap.size w (w1.alloc (.cells #[.int .u8 1] 5)) := bel.alloc bel.size _
        go_wp2_with (at_builtin; go_loud (refine wpList_app1 w rfl _ _ 126 rfl w.heap.size 5 i0 (.int .u8 0) 1 Tryd.underlying126 hi hz0 hz1 hz2 rfl _ _ _ rfl ho _ _ (by rw [World.size_alloc]; rfl) rfl (by decide) (by decide) (Nat.le_refl _) hb1 ?_); intro v' w2 o2 b2)
        go_ret
        exact encR_of (l := [1, 0]) o2 (by decide) b2
      · have e : encL ⟨1, 1, []⟩ = [1, 1] := by decide
        rw [e]
        clear e hm hs hI
        obtain ⟨q1, bel⟩ : (w.alloc (.cells #[.int .i64 1, .int .i64 1, .string (str [])] 43)).heap[w.heap.size]? = some (.cells #[.int .i64 1, .int .i64 1, .string (str [])] 43) ∧ Below w.heap.size w (w.alloc (.cells #[.int .i64 1, .int .i64 1, .string (str [])] 43)) := ⟨heap_alloc_new _ _, (Below.refl _ _).alloc (Nat.le_refl _) _⟩
        go_enter Tryd.func113, Tryd.ntmps113
        go_wp2_with fail
        refine (M _).mono ?_
        rintro e w1 ⟨rfl, g⟩
        replace q1 := (g.block _ (lt_of_block q1)).trans q1
        replace bel := chain bel g
        clear g
        obtain ⟨c0, c1, c2⟩ := cells3 q1
        have ql := lt_of_block q1
        have ho : (w1.alloc (.cells #[.int .u8 1] 5)).ownsRow w.heap.size 5 1 (.slice (some ⟨w1.heap.size, 0, none⟩) 1 1) 1 [.int .u8 1] := World.ownsRow_lit w1 #[.int .u8 1] 1 bel.size (by decide) rfl
        have hb1 : Below w.heap.size w (w1.alloc (.cells #[.int .u8 1] 5)) := bel.alloc bel.size _
        go_wp2_with (at_builtin; go_loud (refine wpList_app1 w rfl _ _ 126 rfl w.heap.size 5 i0 (.int .u8 0) 1 Tryd.underlying126 hi hz0 hz1 hz2 rfl _ _ _ rfl ho _ _ (by rw [World.size_alloc]; rfl) rfl (by decide) (by decide) (Nat.le_refl _) hb1 ?_); intro v' w2 o2 b2)
        go_ret
        exact encR_of (l := [1, 1]) o2 (by decide) b2
    · have e : encL ⟨2, i, []⟩ = 2 :: putL (zigN i) := by unfold encL; rw [if_neg (by rw [hm]; simp)]; rfl
      rw [e]
      clear e hm hs
      obtain ⟨q1, bel⟩ : (w.alloc (.cells #[.int .i64 2, .int .i64 i, .string (str [])] 43)).heap[w.heap.size]? = some (.cells #[.int .i64 2, .int .i64 i, .string (str [])] 43) ∧ Below w.heap.size w (w.alloc (.cells #[.int .i64 2, .int .i64 i, .string (str [])] 43)) := ⟨heap_alloc_new _ _, (Below.refl _ _).alloc (Nat.le_refl _) _⟩
      go_enter Tryd.func113, Tryd.ntmps113
      go_wp2_with fail
      refine (M _).mono ?_
      rintro e w1 ⟨rfl, g⟩
      replace q1 := (g.block _ (lt_of_block q1)).trans q1
      replace bel := chain bel g
      clear g
      obtain ⟨c0, c1, c2⟩ := cells3 q1
      have ql := lt_of_block q1
      have ho : (w1.alloc (.cells #[.int .u8 2] 5)).ownsRow w.heap.size 5 1 (.slice (some ⟨w1.heap.size, 0, none⟩) 1 1) 1 [.int .u8 2] := World.ownsRow_lit w1 #[.int .u8 2] 1 bel.size (by decide) rfl
      have hb1 : Below w.heap.size w (w1.alloc (.cells #[.int .u8 2] 5)) := bel.alloc bel.size _
      go_wp2_with fail
      refine (putInt_any i hI _).mono ?_
      rintro e w2 ⟨g2, n2, cap2, rfl, hn2, hl2, o2, b2⟩
      have r2 : Rd w2 (.slice (some ⟨g2, 0, none⟩) n2 cap2) (putL (zigN i)) := own_rd o2
      have ho2 := own_below ho b2
      have hb2 := chain hb1 b2
      have hl3 := (putL_len (zigN i)).2
      go_wp2_with (at_builtin; go_loud (refine wpList_app_rd w rfl _ _ 126 rfl w.heap.size 5 i0 (.int .u8 0) 1 Tryd.underlying126 hi hz0 hz1 hz2 rfl _ _ _ rfl ho2 _ _ rfl r2 (by unfold maxLen; omega) (by omega) (Nat.le_refl _) hb2 ?_); intro v' w3 o3 b3)
      go_ret
      refine encR_of (l := 2 :: putL (zigN i)) ?_ (by simp) b3
      rw [List.length_cons, Nat.add_comm]
      exact o3
    · have e : encL ⟨3, 0, s⟩ = 3 :: textL s := by unfold encL; rw [if_neg (by rw [hm]; simp)]; rfl
      rw [e]
      have hl3 := textL_len s h3
      clear e hm hs hI
      obtain ⟨q1, bel⟩ : (w.alloc (.cells #[.int .i64 3, .int .i64 0, .string (str s)] 43)).heap[w.heap.size]? = some (.cells #[.int .i64 3, .int .i64 0, .string (str s)] 43) ∧ Below w.heap.size w (w.alloc (.cells #[.int .i64 3, .int .i64 0, .string (str s)] 43)) := ⟨heap_alloc_new _ _, (Below.refl _ _).alloc (Nat.le_refl _) _⟩
      go_enter Tryd.func113, Tryd.ntmps113
      go_wp2_with fail
      refine (M _).mono ?_
      rintro e w1 ⟨rfl, g⟩
      replace q1 := (g.block _ (lt_of_block q1)).trans q1
      replace bel := chain bel g
      clear g
      obtain ⟨c0, c1, c2⟩ := cells3 q1
      have ql := lt_of_block q1
      have ho : (w1.alloc (.cells #[.int .u8 3] 5)).ownsRow w.heap.size 5 1 (.slice (some ⟨w1.heap.size, 0, none⟩) 1 1) 1 [.int .u8 3] := World.ownsRow_lit w1 #[.int .u8 3] 1 bel.size (by decide) rfl
      have hb1 : Below w.heap.size w (w1.alloc (.cells #[.int .u8 3] 5)) := bel.alloc bel.size _
      go_wp2_with fail
      refine (putText_any s _ (by unfold maxLen; omega)).mono ?_
      rintro e w2 ⟨v2, rfl, r2, o2, b2⟩
      have ho2 := own_below ho b2
      have hb2 := chain hb1 b2
      go_wp2_with (at_builtin; go_loud (refine wpList_app_rd w rfl _ _ 126 rfl w.heap.size 5 i0 (.int .u8 0) 1 Tryd.underlying126 hi hz0 hz1 hz2 rfl _ _ _ rfl ho2 _ _ rfl r2 (by unfold maxLen; omega) (by omega) (Nat.le_refl _) hb2 ?_); intro v' w3 o3 b3)
      go_ret
      refine encR_of (l := 3 :: textL s) ?_ (by simp) b3
      rw [List.length_cons, Nat.add_comm]
      exact o3
end Go.Proofs.YtbdfcgffkonbiaaDoor.V7
namespace Go.Proofs.YtbdfcgffkonbiaaDoor
open Go Go.RowKit
set_option linter.unusedVariables false
set_option linter.unusedSimpArgs false
def WfI (l : List It) : Prop := ∀ x ∈ l, I64 x.v.i
def wtI (x : It) : Nat := x.key.length + (V7.encL x.v).length
def wtL (l : List It) : Nat := (l.map wtI).sum
def weightL (l : List It) : Nat := if isL l = true then wtL l else 0
theorem encL_max (a : V7.V) : (V7.encL a).length ≤ 75 := by
  unfold V7.encL
  split
  · simp
  · rename_i hm
    split
    · simp
    · split
      · have := (putL_len (zigN a.i)).2; simp; omega
      · split
        · have h3 : a.s.length ≤ 64 := by
            have h : V7.mayB a = true := by simpa using hm
            simp only [V7.mayB, decide_eq_true_eq] at h
            rcases h with ⟨_, _, h⟩ | ⟨_, _, h⟩ | ⟨_, h⟩ | ⟨_, _, h⟩
            · simp [h]
            · simp [h]
            · simp [h]
            · exact h
          have := V7.textL_len a.s h3
          simp; omega
        · simp
theorem may_key {x : It} (h : mayI x = true) : x.key.length ≤ 24 := by
  unfold mayI isB patB at h
  simp only [Bool.and_eq_true, decide_eq_true_eq] at h
  exact h.1.2.1
theorem may_v {x : It} (h : mayI x = true) : V7.mayB x.v = true := by
  unfold mayI at h
  simp only [Bool.and_eq_true, decide_eq_true_eq] at h
  exact h.2.1
theorem wt_succ {l : List It} {j : Nat} (h : j < l.length) : wtL (l.take (j + 1)) = wtL (l.take j) + wtI l[j] := by
  unfold wtL; rw [List.take_add_one, List.getElem?_eq_getElem h, List.map_append, List.sum_append]; simp
set_option maxRecDepth 100000 in
set_option maxHeartbeats 1000000 in
theorem weight_any (v : Value) (l : List It) (w : World) (tab : TabAt w) (h : RdI w v l) (hsz : SzI l) (hwf : WfI l) :
    Calls Tryd.prog 89 #[v] w fun e w' => e = .returned (.int .i64 (weightL l : Int)) ∧ Below w.heap.size w w' := by
  obtain ⟨ao, cap, rfl, hc, hm, hr⟩ := RdK.open h
  have HRD := Lib.hid (show RdI w (.slice ao l.length cap) l from hr)
  have IS0 := is9_any _ l w tab (show RdI w (.slice ao l.length cap) l from hr) hsz
  obtain ⟨R, hR⟩ : ∃ R, R = weightL l := ⟨_, rfl⟩
  rw [← hR]
  clear h hr
  cases hl : isL l with
  | false =>
    rw [hl] at IS0
    have e0 : R = 0 := by rw [hR]; unfold weightL; rw [hl]; rfl
    subst e0
    clear hR hl
    go_enter Tryd.func89, Tryd.ntmps89
    go_wp2_with fail
    refine IS0.mono ?_
    rintro e w1 ⟨rfl, g1⟩
    go_wp2_with fail
    go_ret
    exact ⟨rfl, g1⟩
  | true =>
    rw [hl] at IS0
    have h64 := isL_len hl
    have HM := Lib.hid (isL_may hl)
    have HR := Lib.hid (show R = wtL l by rw [hR]; unfold weightL; rw [hl]; rfl)
    have HS := Lib.hid hsz
    have HW := Lib.hid hwf
    clear hR hl hsz hwf
    go_enter Tryd.func89, Tryd.ntmps89
    go_wp2_with fail
    refine IS0.mono ?_
    rintro e w1 ⟨rfl, g1⟩
    clear IS0
    go_wp2_with fail
    go_loopw [3, 11] (fun z i wr => ∃ (j s : Nat), j ≤ l.length ∧ i = .int .i64 (j : Int) ∧ z = .int .i64 (s : Int) ∧ s ≤ 100 * j ∧ Hid (s = wtL (l.take j)) ∧ Below w.heap.size w wr) (fun _ i _ => 100 - (intOf i).toNat)
    case atStart => exact ⟨0, 0, Nat.zero_le _, rfl, rfl, Nat.le_refl _, rfl, g1⟩
    case round =>
      obtain ⟨j, s, hj, rfl, rfl, hs, HA, bel⟩ := hrel
      by_cases hlt : j < l.length
      · have hr := HRD.out
        have R1 := hr.below bel (Nat.le_refl _)
        obtain ⟨b, off, rfl, hb, c0, c1, c2, c3, c4⟩ := rdi_cells R1 j hlt
        obtain ⟨x, hx⟩ : ∃ x, x = l[j]'hlt := ⟨_, rfl⟩
        rw [← hx] at c0 c1 c2 c3 c4
        have hxk : x.key.length ≤ 24 := by rw [hx]; exact may_key (HM.out _ (List.getElem_mem _))
        have hxs : x.v.s.length ≤ maxLen := by rw [hx]; exact (HS.out _ (List.getElem_mem _)).2
        have hxi : I64 x.v.i := by rw [hx]; exact HW.out _ (List.getElem_mem _)
        have hmx := encL_max x.v
        obtain ⟨n1, hn1⟩ : ∃ n1, n1 = x.key.length := ⟨_, rfl⟩
        obtain ⟨n2, hn2⟩ : ∃ n2, n2 = (V7.encL x.v).length := ⟨_, rfl⟩
        have z1 : (str x.key).size = n1 := by rw [hn1]; exact str_size _
        have HA2 := Lib.hid (show s + (n1 + n2) = wtL (l.take (j + 1)) by rw [wt_succ hlt, ← HA.out, ← hx, hn1, hn2]; rfl)
        rw [← hn1] at hxk
        rw [← hn2] at hmx
        have EN := Lib.hid (show ∀ w, Calls Tryd.prog 113 #[.agg #[.int .i64 x.v.k, .int .i64 x.v.i, .string (str x.v.s)]] w fun e w' => ∃ ao cap, e = .returned (.slice ao n2 cap) ∧ n2 ≤ cap ∧ cap ≤ 9223372036854775807 ∧ Below w.heap.size w w' by
          intro w
          refine (V7.encode_any x.v.k x.v.i x.v.s w hxs hxi).mono ?_
          rintro e w9 ⟨v9, rfl, r9, -, b9⟩
          obtain ⟨ao9, cap9, rfl, h1, h2, -⟩ := r9
          rw [hn2]
          exact ⟨ao9, cap9, rfl, h1, by unfold maxLen at h2; omega, b9⟩)
        have E1 := Lib.hid (show IntKind.i64.wrap ((n1 : Int) + (n2 : Int)) = ((n1 + n2 : Nat) : Int) by rw [IntKind.wrap_i64]; omega)
        have E2 := Lib.hid (show IntKind.i64.wrap ((s : Int) + ((n1 + n2 : Nat) : Int)) = ((s + (n1 + n2) : Nat) : Int) by rw [IntKind.wrap_i64]; omega)
        have q8 := heap_alloc_new wr (.cells #[.string (str x.key), .int .i64 x.v.k, .int .i64 x.v.i, .string (str x.v.s), .int .i64 x.ver] 53)
        have B1 := chain bel ((Below.refl wr.heap.size wr).alloc (Nat.le_refl _) (.cells #[.string (str x.key), .int .i64 x.v.k, .int .i64 x.v.i, .string (str x.v.s), .int .i64 x.ver] 53))
        have hs2 : s + (n1 + n2) ≤ 100 * (j + 1) := by omega
        clear hx hn1 hn2 hr R1 hxs hxi
        go_wp2_with fail
        refine g_start (by kernel_rfl) ?_
        refine g_take (i := 0) (d := (some 15)) (v := ?_) rfl rfl (by kernel_rfl) (fun _ _ _ h => h) (by rfl) (fun w' hb' => ?_) ?_
        rotate_left
        · (try go_simp); (try with_reducible rfl)
        try simp only [Act.put, List.setIfInBounds_toArray, List.set_cons_zero, List.set_cons_succ]
        refine g_take (i := 1) (d := (some 16)) (v := ?_) rfl rfl (by kernel_rfl) (fun _ _ _ h => h) (by rfl) (fun w' hb' => ?_) ?_
        rotate_left
        · (try go_simp); (try with_reducible rfl)
        try simp only [Act.put, List.setIfInBounds_toArray, List.set_cons_zero, List.set_cons_succ]
        refine g_take (i := 2) (d := (some 17)) (v := ?_) rfl rfl (by kernel_rfl) (fun _ _ _ h => h) (by rfl) (fun w' hb' => ?_) ?_
        rotate_left
        · obtain ⟨d0, d1, d2, d3, d4, dz⟩ := block_cells5 ((hb'.block _ (lt_of_block q8)).trans q8); (try go_simp); (try with_reducible rfl)
        try simp only [Act.put, List.setIfInBounds_toArray, List.set_cons_zero, List.set_cons_succ]
        refine g_take (i := 3) (d := (some 18)) (v := ?_) rfl rfl (by kernel_rfl) (fun _ _ _ h => h) (by rfl) (fun w' hb' => ?_) ?_
        rotate_left
        · (try go_simp); (try with_reducible rfl)
        try simp only [Act.put, List.setIfInBounds_toArray, List.set_cons_zero, List.set_cons_succ]
        refine g_take (i := 4) (d := (some 19)) (v := ?_) rfl rfl (by kernel_rfl) (fun _ _ _ h => h) (by rfl) (fun w' hb' => ?_) ?_
        rotate_left
        · (try go_simp); (try with_reducible rfl)
        try simp only [Act.put, List.setIfInBounds_toArray, List.set_cons_zero, List.set_cons_succ]
        refine g_take (i := 5) (d := (some 20)) (v := ?_) rfl rfl (by kernel_rfl) (fun _ _ _ h => h) (by rfl) (fun w' hb' => ?_) ?_
        rotate_left
        · obtain ⟨d0, d1, d2, d3, d4, dz⟩ := block_cells5 ((hb'.block _ (lt_of_block q8)).trans q8); (try go_simp); (try with_reducible rfl)
        try simp only [Act.put, List.setIfInBounds_toArray, List.set_cons_zero, List.set_cons_succ]
        refine g_run (i := 6) rfl (by kernel_rfl) (by rfl) (fun K hK => ?_)
        go_simp; refine (EN.out _).mono ?_; rintro e w9 ⟨ao9, cap9, rfl, h91, h92, b9⟩; refine hK _ _ ⟨b9, ?_⟩; clear hK K
        try simp only [Act.put, List.setIfInBounds_toArray, List.set_cons_zero, List.set_cons_succ]
        refine g_take (i := 7) (d := (some 22)) (v := ?_) rfl rfl (by kernel_rfl) (fun _ _ _ h => h) (by rfl) (fun w' hb' => ?_) ?_
        rotate_left
        · (try go_simp); (try with_reducible rfl)
        try simp only [Act.put, List.setIfInBounds_toArray, List.set_cons_zero, List.set_cons_succ]
        refine g_take (i := 8) (d := (some 23)) (v := ?_) rfl rfl (by kernel_rfl) (fun _ _ _ h => h) (by rfl) (fun w' hb' => ?_) ?_
        rotate_left
        · have e1 := E1.out; (try go_simp); (try with_reducible rfl)
        try simp only [Act.put, List.setIfInBounds_toArray, List.set_cons_zero, List.set_cons_succ]
        refine g_take (i := 9) (d := (some 24)) (v := ?_) rfl rfl (by kernel_rfl) (fun _ _ _ h => h) (by rfl) (fun w' hb' => ?_) ?_
        rotate_left
        · have e2 := E2.out; (try go_simp); (try with_reducible rfl)
        try simp only [Act.put, List.setIfInBounds_toArray, List.set_cons_zero, List.set_cons_succ]
        refine g_take (i := 10) (d := (some 3)) (v := ?_) rfl rfl (by kernel_rfl) (fun _ _ _ h => h) (by rfl) (fun w' hb' => ?_) ?_
        rotate_left
        · (try go_simp); (try with_reducible rfl)
        try simp only [Act.put, List.setIfInBounds_toArray, List.set_cons_zero, List.set_cons_succ]
        refine g_done (by kernel_rfl) ?_
        go_wp2_with fail
        exact ⟨⟨j + 1, s + (n1 + n2), by omega, by push_cast; rfl, by have h := E2.out; push_cast at h ⊢; rw [h], hs2, HA2, chain (B1.drew) b9⟩, by simp [intOf]; omega⟩
      · obtain rfl : j = l.length := by omega
        have E := Lib.hid (show R = s by rw [HR.out, HA.out, List.take_length])
        go_wp2_with fail
        go_ret
        exact ⟨by rw [E.out]; rfl, bel⟩
def bytesI (x : It) : List UInt8 := textL x.key ++ (V7.encL x.v ++ putL x.ver.toNat)
def encC (l : List It) : List UInt8 := UInt8.ofNat l.length :: l.flatMap bytesI
end Go.Proofs.YtbdfcgffkonbiaaDoor
namespace Go.Proofs.YtbdfcgffkonbiaaDoor
open Go Go.RowKit
set_option linter.unusedVariables false
set_option linter.unusedSimpArgs false
def arr16 (cs : Array Value) : List Value := cs.toList.take 16
theorem arr16_len {cs : Array Value} (h : cs.size = 32) : (arr16 cs).length = 16 := by unfold arr16; rw [List.length_take, Array.length_toList]; omega
theorem arr16_at {cs : Array Value} {k : Nat} (hk : k < 16) : (arr16 cs).toArray[k]? = cs[k]? := by
  unfold arr16; rw [List.getElem?_toArray, List.getElem?_take, if_pos hk, Array.getElem?_toList]
theorem arr16_range {w : World} {B : Nat} {cs : Array Value} {t : TypeId} (q : w.heap[B]? = some (.cells cs t (0, 0))) : w.rangeAt B 0 (arr16 cs) := by
  intro j v hv
  have hj : j < 16 := by
    have := (List.getElem?_eq_some_iff.1 hv).1
    unfold arr16 at this; rw [List.length_take] at this; omega
  rw [Nat.zero_add, block_cell q j, ← arr16_at hj, List.getElem?_toArray]; exact hv
theorem info16 {cs : Array Value} (h : cs.size = 32) : (Tryd.prog.info? 23).map (·.size) = some (arr16 cs).length := by
  rw [arr16_len h]; kernel_rfl
/-- What a function says of the leaves, added up. -/
def sumN (p : List It → Nat) (lv : Nat → List It) (n : Nat) : Nat := ((List.range n).map fun b => p (lv b)).sum
theorem sumN_succ (p : List It → Nat) (lv : Nat → List It) (n : Nat) : sumN p lv (n + 1) = sumN p lv n + p (lv n) := by
  unfold sumN; rw [List.range_succ, List.map_append, List.sum_append]; simp
def sumT (p : List It → Nat) (lv : Nat → List It) (vs : Nat → Int) : Nat := if mayTs lv vs 16 = true then sumN p lv 16 else 0
set_option maxRecDepth 100000 in
set_option maxHeartbeats 2000000 in
theorem sum_any (F : Nat) (p : List It → Nat) (cs : Array Value) (lv : Nat → List It) (vs : Nat → Int) (w : World) (tab : TabAt w) (h : RdT w cs lv vs) (hsz : SzT lv)
    (HP : ∀ b, b < 16 → ∀ W u, TabAt W → RdI W u (lv b) → Calls Tryd.prog F #[u] W fun e w' => e = .returned (.int .i64 (p (lv b) : Int)) ∧ Below W.heap.size W w')
    (hp : ∀ b, b < 16 → p (lv b) ≤ 100000) (eg : ∀ args w, (callFunc F args).run Tryd.prog w = .ok (.enter F args) w) :
    Calls Tryd.prog 88 #[.agg cs, .func (.func F) #[] #[]] w fun e w' => e = .returned (.int .i64 (sumT p lv vs : Int)) ∧ Below w.heap.size w w' := by
  have hs := infoTc h.size
  have hs16 := info16 h.size
  have HT := Lib.hid h
  have HPP := Lib.hid HP
  have HPB := Lib.hid hp
  obtain ⟨R, hR⟩ : ∃ R, R = sumT p lv vs := ⟨_, rfl⟩
  rw [← hR]
  have q2 := heap_alloc_new w (.cells cs 26)
  have bel := (Below.refl w.heap.size w).alloc (Nat.le_refl _) (.cells cs 26)
  have T0 := tab.below bel
  have T1 := Lib.hid tab
  have TM0 := tmay_any cs lv vs _ T0 (h.below bel (Nat.le_refl _)) hsz
  clear h hsz tab HP hp
  cases hm : mayTs lv vs 16 with
  | false =>
    have HR := Lib.hid (show R = 0 by rw [hR]; unfold sumT; rw [hm]; rfl)
    rw [hm] at TM0
    have TM := Lib.hid TM0
    clear hR hm TM0
    go_enter Tryd.func88, Tryd.ntmps88
    go_wp2_with (with_reducible refine wpList_load_row (o := ⟨some 8, _, _, _, _, _⟩) rfl 26 (.tmp 2) rfl _ rfl _ cs (0, 0) _ q2 Tryd.underlying26 rfl hs ?_)
    refine TM.out.mono ?_
    rintro e w1 ⟨rfl, g⟩
    replace bel := chain bel g
    clear g q2
    go_wp2_with fail
    go_ret
    exact ⟨by rw [HR.out]; rfl, bel⟩
  | true =>
    have HR := Lib.hid (show R = sumN p lv 16 by rw [hR]; unfold sumT; rw [hm]; rfl)
    rw [hm] at TM0
    have TM := Lib.hid TM0
    clear hR hm TM0
    go_enter Tryd.func88, Tryd.ntmps88
    go_wp2_with (with_reducible refine wpList_load_row (o := ⟨some 8, _, _, _, _, _⟩) rfl 26 (.tmp 2) rfl _ rfl _ cs (0, 0) _ q2 Tryd.underlying26 rfl hs ?_)
    refine TM.out.mono ?_
    rintro e w1 ⟨rfl, g⟩
    replace q2 := (g.block _ (lt_of_block q2)).trans q2
    replace bel := chain bel g
    have hrg := arr16_range q2
    clear g
    go_wp2_with (with_reducible refine wpList_load_mid (op := ⟨some 12, _, _, _, _, _⟩) rfl 23 (.tmp 11) rfl _ 0 rfl (arr16 cs) _ hrg Tryd.underlying23 rfl hs16 ?_)
    obtain ⟨A, hA⟩ : ∃ A, A = (arr16 cs).toArray := ⟨_, rfl⟩
    rw [← hA]
    have HA := Lib.hid hA
    clear hA hrg hs16 q2
    go_loopw [5, 13] (fun n i wr => ∃ k : Nat, k ≤ 16 ∧ i = .int .i64 (k : Int) ∧ n = .int .i64 (sumN p lv k : Int) ∧ Hid (sumN p lv k ≤ k * 100000) ∧ Below w.heap.size w wr) (fun _ i _ => 20 - (intOf i).toNat)
    case atStart => exact ⟨0, by omega, rfl, rfl, Lib.hid (Nat.zero_le _), bel⟩
    case round =>
      clear bel
      obtain ⟨k, hk, rfl, rfl, HB, bel⟩ := hrel
      by_cases hlt : k < 16
      · have hlti : (k : Int) < 16 := by omega
        obtain ⟨u, hu, hru⟩ := HT.out.leaf k hlt
        have hX := fun W => ix16 A k u hlt (by rw [HA.out, arr16_at hlt]; exact hu) W
        have b1 := HB.out
        have b2 := HPB.out k hlt
        have HN := Lib.hid (sumN_succ p lv k)
        have HBN := Lib.hid (show sumN p lv (k + 1) ≤ (k + 1) * 100000 by rw [sumN_succ]; omega)
        have PC := HPP.out k hlt wr u (T1.out.below bel) (hru.below bel (Nat.le_refl _))
        obtain ⟨P, hP⟩ : ∃ P, P = p (lv k) := ⟨_, rfl⟩
        obtain ⟨Q, hQ⟩ : ∃ Q, Q = sumN p lv k := ⟨_, rfl⟩
        rw [← hP] at PC b2 HN
        rw [← hQ] at b1 HN ⊢
        have p1 : (P : Int) ≤ 100000 := by omega
        have p2 : (Q : Int) ≤ 1600000 := by omega
        have p3 : (0 : Int) ≤ P := by omega
        have p4 : (0 : Int) ≤ Q := by omega
        clear hu hru hP hQ b1 b2
        go_wp2_with fail
        refine PC.mono ?_
        rintro e w2 ⟨rfl, g⟩
        have bel2 := chain bel g
        clear PC g hX
        go_wp2_with fail
        exact ⟨⟨k + 1, by omega, by push_cast; rfl, by rw [HN.out]; push_cast; rfl, HBN, bel2⟩, by simp [intOf]; omega⟩
      · obtain rfl : k = 16 := by omega
        go_wp2_with fail
        go_ret
        exact ⟨by rw [HR.out]; rfl, bel⟩
theorem isT {lv : Nat → List It} {vs : Nat → Int} (h : mayTs lv vs 16 = true) {b : Nat} (hb : b < 16) : isL (lv b) = true := mayT_is (mayTs_at h hb)
set_option maxRecDepth 100000 in
theorem count_any (cs : Array Value) (lv : Nat → List It) (vs : Nat → Int) (w : World) (tab : TabAt w) (h : RdT w cs lv vs) (hsz : SzT lv) (h100 : ∀ b, b < 16 → (lv b).length ≤ 100) :
    Calls Tryd.prog 55 #[.agg cs] w fun e w' => e = .returned (.int .i64 (sumT List.length lv vs : Int)) ∧ Below w.heap.size w w' := by
  have hs := infoTc h.size
  have q2 := heap_alloc_new w (.cells cs 26)
  have bel := (Below.refl w.heap.size w).alloc (Nat.le_refl _) (.cells cs 26)
  have SU := Lib.hid (sum_any 90 List.length cs lv vs _ (tab.below bel) (h.below bel (Nat.le_refl _)) hsz (fun b hb W u _ hr => by
    obtain ⟨ao, cap, rfl, hc, hm, _⟩ := RdK.open hr
    go_enter Tryd.func90, Tryd.ntmps90
    go_wp2_with fail
    go_ret
    exact ⟨rfl, Below.refl _ _⟩) (fun b hb => Nat.le_trans (h100 b hb) (by decide)) (fun args w => by kernel_rfl))
  obtain ⟨R, hR⟩ : ∃ R, R = sumT List.length lv vs := ⟨_, rfl⟩
  rw [← hR] at SU ⊢
  clear hR h hsz tab h100
  go_enter Tryd.func55, Tryd.ntmps55
  go_wp2_with (with_reducible refine wpList_load_row (o := ⟨some 3, _, _, _, _, _⟩) rfl 26 (.tmp 1) rfl _ rfl _ cs (0, 0) _ q2 Tryd.underlying26 rfl hs ?_)
  refine SU.out.mono ?_
  rintro e w1 ⟨rfl, g⟩
  replace bel := chain bel g
  clear g q2
  go_wp2_with fail
  go_ret
  exact ⟨rfl, bel⟩
open Classical in
noncomputable def itEq (x y : It) : Bool := decide (x = y)
theorem it_ne_yes (x y : It) (h : x ≠ y) (w : World) : (binOp .neq 53 (itV x) (itV y)).run Tryd.prog w = .ok (.bool true) w := by
  obtain ⟨a, ⟨b, c, d⟩, e⟩ := x
  obtain ⟨a', ⟨b', c', d'⟩, e'⟩ := y
  unfold itV
  go_simp
  by_cases h1 : a = a'
  · by_cases h2 : b = b'
    · by_cases h3 : c = c'
      · by_cases h4 : d = d'
        · by_cases h5 : e = e'
          · exact absurd (by rw [h1, h2, h3, h4, h5]) h
          · simp [h1, h2, h3, h4, h5, str_tl]
        · simp [h1, h2, h3, h4, str_tl]
      · simp [h1, h2, h3, str_tl]
    · simp [h1, h2, str_tl]
  · simp [h1, str_tl]
end Go.Proofs.YtbdfcgffkonbiaaDoor
