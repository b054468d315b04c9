/- Locks: what turns the table; the document's answers. Written by wip/tools/gen24b.py. -/
import Derived.Test.YtjmfiekgpoonjaaDoorQLGC24
namespace Go.Proofs.YtjmfiekgpoonjaaDoor
open Go Go.RowKit
set_option linter.unusedVariables false
set_option linter.unusedSimpArgs false
theorem grown_of_below {w w' : World} {r : Option Nat} (g : Below w.heap.size w w') : w.grownBy w' r := ⟨g.os, g.tape, g.output, g.size, fun k hk _ => g.block k hk⟩
theorem grown_set {w : World} {B i : Nat} {u : Value} : w.grownBy (w.setCell ⟨B, i, none⟩ u) (some B) := ⟨rfl, rfl, rfl, by simp, fun k hk hne => heap_setCell_other w ⟨B, i, none⟩ k u (by simpa using hne)⟩
theorem grown_tr {a b c : World} {r : Option Nat} (h : a.grownBy b r) (k : b.grownBy c r) : a.grownBy c r :=
  ⟨k.os.trans h.os, k.tape.trans h.tape, k.output.trans h.output, Nat.le_trans h.size k.size, fun i hi hr => (k.block i (Nat.lt_of_lt_of_le hi h.size) hr).trans (h.block i hi hr)⟩
theorem Tb.set {w1 w : World} {pt Bs : Nat} {aA : Option Addr} {cA N : Nat} {L : List Wt} {at' : List Nat} (T : Tb w1 w pt Bs aA cA N L at') (i x : Nat) : Tb w1 (w.setCell ⟨Bs, i, none⟩ (.int .i64 (x : Int))) pt Bs aA cA N L (at'.set i x) := by
  refine ⟨T.bs, T.bel.setCell (p := ⟨Bs, i, none⟩) (by rw [T.bs]; exact Nat.le_refl _) _, (set_old (by have := T.pt1; omega)).trans T.tb, ?_, by rw [List.length_set]; exact T.len, T.ah, T.pt1, T.n64⟩
  rw [set_at T.st, List.map_set]
  simp [iv]
/-- What turns neither the table nor how far all are leaves it. -/
theorem Tb.grown {w1 w w' : World} {pt Bs Ba : Nat} {aA : Option Addr} {cA N : Nat} {L : List Wt} {at' : List Nat} (T : Tb w1 w pt Bs aA cA N L at') (g : w.grownBy w' (some Ba)) (h : pt < Ba) : Tb w1 w' pt Bs aA cA N L at' := by
  have hp := T.pt1
  have hb := T.bs
  refine ⟨T.bs, T.bel.grown g T.bel.size (fun j e => by cases e; omega), (g.block _ (lt_of_block T.tb) (by simp; omega)).trans T.tb, (g.block _ (lt_of_block T.st) (by simp; omega)).trans T.st, T.len, T.ah, T.pt1, T.n64⟩
set_option maxRecDepth 100000 in
theorem new_no (v : Value) (ps : List WV) (L : List Wt) (w : World) (tab : TabAt w) (h : RdL w v ps L) (hz : SzL L) (hall : allB L = false) :
    Calls Tryd.prog 18 #[v] w fun e w' => e = .returned (.tuple #[.pointer none, .int .i64 1]) ∧ Below w.heap.size w w' := by
  have H := Lib.hid (aheadF_no v ps L w tab h hz hall)
  clear hall h hz tab
  go_enter Tryd.func18, Tryd.ntmps18
  go_wp2_with ((with_reducible refine (H.out).mono ?_); rintro e w1 ⟨rfl, g⟩)
  go_ret2
  exact ⟨rfl, g⟩
theorem make_states (n : Nat) (hn : n ≤ 100) (u : World) : (Instr.makeSlice 71 (.int .i64 (n : Int)) (.int .i64 (n : Int))).run Tryd.prog u = .ok (.slice (some ⟨u.heap.size, 0, none⟩) n n) (u.alloc (.cells (Array.replicate n (.int .i64 0)) 74)) := by
  obtain ⟨i0, hi, hz0, hz1, hz2⟩ := info_parts (show (Tryd.prog.info? 74).map (fun i => (i.zero, i.size, i.bytes)) = some (some (.int .i64 0), 1, 8) by kernel_rfl)
  have h := run_make (P := Tryd.prog) u 71 74 i0 (.int .i64 0) Tryd.underlying71 hi hz0 .i64 .i64 (n : Int) (n : Int) (by omega) (by omega) (by rw [hz2]; omega) (by omega)
  rw [hz1] at h
  simp only [Int.toNat_natCast, Nat.mul_one, Value.cells] at h
  rw [made_one] at h
  exact h
def GivesT (w : World) (N : Nat) (L : List Wt) (e : Ending) (w' : World) : Prop := ∃ w1 pt Bs aA cA, e = .returned (.tuple #[.pointer (some ⟨pt, 0, none⟩), .int .i64 0]) ∧ Tb w1 w' pt Bs aA cA N L (List.replicate N 0) ∧ Below w.heap.size w w' ∧ w.heap.size ≤ Bs
set_option maxRecDepth 100000 in
theorem new_yes (v : Value) (ps : List WV) (L : List Wt) (w : World) (tab : TabAt w) (h : RdL w v ps L) (hz : SzL L) (hall : allB L = true) :
    Calls Tryd.prog 18 #[v] w (GivesT w L.length L) := by
  obtain ⟨ao, cap, rfl, hc1, hc2, hr⟩ := h.open
  have h64 : L.length ≤ 64 := by unfold allB at hall; rw [Bool.and_eq_true, decide_eq_true_eq] at hall; exact hall.1
  have H0 := aheadF_yes (.slice ao L.length cap) ps L w tab hr hz hall
  obtain ⟨N, hN⟩ : ∃ N, N = L.length := ⟨_, rfl⟩
  rw [← hN] at H0 h64 ⊢
  have H := Lib.hid H0
  have hmk := make_states N (by omega)
  obtain ⟨Z, hZ⟩ : ∃ Z, Z = GivesT w N L := ⟨_, rfl⟩
  rw [← hZ]
  have HZ := Lib.hid hZ
  clear hall h hz tab hr H0 hN hZ
  go_enter Tryd.func18, Tryd.ntmps18
  go_wp2_with fail
  refine H.out.mono ?_
  rintro e w1 ⟨a1, n1, k1, rfl, hA, g⟩
  obtain ⟨hn1, hk1, hk2⟩ := hA.open
  rw [ahL_len] at hn1
  subst hn1
  have HA := Lib.hid hA
  have BG := Lib.hid g
  clear hA g
  go_wp2_with fail
  show Z (.returned _) _
  rw [HZ.out]
  obtain ⟨p1, p2, p3, -⟩ := two_allocs w1 (.cells (Array.replicate n1 (.int .i64 0)) 74) (.cells #[.slice (some ⟨w1.heap.size, 0, none⟩) n1 n1, .slice a1 n1 k1] 73)
  have b10 := ((Below.refl w1.heap.size w1).alloc (Nat.le_refl _) (.cells (Array.replicate n1 (.int .i64 0)) 74)).alloc (by simp) (.cells #[.slice (some ⟨w1.heap.size, 0, none⟩) n1 n1, .slice a1 n1 k1] 73)
  refine ⟨w1, w1.heap.size + 1, w1.heap.size, a1, k1, rfl, ⟨rfl, b10, p2, ?_, by simp, HA.out, rfl, h64⟩, BG.out.trans (b10.mono BG.out.size), BG.out.size⟩
  rw [p1]
  congr 2
  simp [iv]
def bgC (L : List Wt) (at' : List Nat) (i : Nat) : Nat := if at'.getD i 0 ≠ 0 then 16 else if (opL L at' i).length ≠ 0 then 20 else 0
def bgA (L : List Wt) (at' : List Nat) (i : Nat) : List Nat := if bgC L at' i = 0 then at'.set i 1 else at'
def enC (at' : List Nat) (i : Nat) : Nat := if at'.getD i 0 = 0 then 6 else if at'.getD i 0 = 2 then 16 else 0
def enA (at' : List Nat) (i : Nat) : List Nat := if enC at' i = 0 then at'.set i 2 else at'
def TurnT (w1 w : World) (pt Bs : Nat) (aA : Option Addr) (cA N : Nat) (L : List Wt) (at' : List Nat) (c : Nat) (e : Ending) (w' : World) : Prop := e = .returned (.int .i64 (c : Int)) ∧ Tb w1 w' pt Bs aA cA N L at' ∧ w.grownBy w' (some Bs)
set_option maxRecDepth 100000 in
theorem begin_no (w1 : World) (pt Bs : Nat) (aA : Option Addr) (cA N : Nat) (L : List Wt) (at' : List Nat) (i : Int) (w : World) (T : Tb w1 w pt Bs aA cA N L at') (h : hasB N i = false) :
    Calls Tryd.prog 22 #[.pointer (some ⟨pt, 0, none⟩), .int .i64 i] w fun e w' => e = .returned (.int .i64 4) ∧ w = w' := by
  have H0 := has_any w1 pt Bs aA cA N L at' i w T
  rw [h] at H0
  have H := Lib.hid H0
  clear H0 h T
  go_enter Tryd.func22, Tryd.ntmps22
  go_wp2_with ((with_reducible refine (H.out).mono ?_); rintro e w2 ⟨rfl, rfl⟩)
  go_ret
  exact ⟨rfl, rfl⟩
set_option maxRecDepth 100000 in
theorem end_no (w1 : World) (pt Bs : Nat) (aA : Option Addr) (cA N : Nat) (L : List Wt) (at' : List Nat) (i : Int) (w : World) (T : Tb w1 w pt Bs aA cA N L at') (h : hasB N i = false) :
    Calls Tryd.prog 20 #[.pointer (some ⟨pt, 0, none⟩), .int .i64 i] w fun e w' => e = .returned (.int .i64 4) ∧ w = w' := by
  have H0 := has_any w1 pt Bs aA cA N L at' i w T
  rw [h] at H0
  have H := Lib.hid H0
  clear H0 h T
  go_enter Tryd.func20, Tryd.ntmps20
  go_wp2_with ((with_reducible refine (H.out).mono ?_); rintro e w2 ⟨rfl, rfl⟩)
  go_ret
  exact ⟨rfl, rfl⟩
set_option maxRecDepth 100000 in
set_option maxHeartbeats 1000000 in
theorem begin_yes (w1 : World) (pt Bs : Nat) (aA : Option Addr) (cA N : Nat) (L : List Wt) (at' : List Nat) (i : Nat) (hi : i < N) (w : World) (T : Tb w1 w pt Bs aA cA N L at') :
    Calls Tryd.prog 22 #[.pointer (some ⟨pt, 0, none⟩), .int .i64 (i : Int)] w (TurnT w1 w pt Bs aA cA N L (bgA L at' i) (bgC L at' i)) := by
  have H0 := has_any w1 pt Bs aA cA N L at' (i : Int) w T
  rw [has_yes hi] at H0
  have H := Lib.hid H0
  have OP := Lib.hid (open_any w1 pt Bs aA cA N L at' i hi w T)
  obtain ⟨c0, c1, cf⟩ := block_cells2 T.tb
  have cI := T.cell i hi
  have hii : (i : Int) < (N : Int) := by omega
  have HT := Lib.hid T
  obtain ⟨Z, hZ⟩ : ∃ Z, Z = TurnT w1 w pt Bs aA cA N L (bgA L at' i) (bgC L at' i) := ⟨_, rfl⟩
  rw [← hZ]
  have HZ := Lib.hid hZ
  have HA := Lib.hid (show bgA L at' i = if bgC L at' i = 0 then at'.set i 1 else at' from rfl)
  have HC := Lib.hid (show bgC L at' i = if at'.getD i 0 ≠ 0 then 16 else if (opL L at' i).length ≠ 0 then 20 else 0 from rfl)
  obtain ⟨x, hx⟩ : ∃ x, x = at'.getD i 0 := ⟨_, rfl⟩
  rw [← hx] at cI HC
  obtain ⟨l, hl⟩ : ∃ l, l = opL L at' i := ⟨_, rfl⟩
  rw [← hl] at OP HC
  clear T H0 hx hl hZ
  by_cases h0 : x = 0
  · have d0 : ((x : Int) != 0) = false := by rw [h0]; rfl
    by_cases h1 : l.length = 0
    · have HC' := Lib.hid (show bgC L at' i = 0 by rw [HC.out, if_neg (by omega), if_neg (by omega)])
      have HA' := Lib.hid (show bgA L at' i = at'.set i 1 by rw [HA.out, if_pos HC'.out])
      have d1 : decide (0 < (l.length : Int)) = false := decide_eq_false (by omega)
      have d2 : decide (0 < l.length) = false := decide_eq_false (by omega)
      clear h0
      go_enter Tryd.func22, Tryd.ntmps22
      go_wp2_with (first | ((with_reducible refine (H.out).mono ?_); rintro e w2 ⟨rfl, rfl⟩) | ((with_reducible refine (OP.out).mono ?_); rintro e w2 ⟨a, n, c, rfl, own, g⟩; (obtain ⟨-, hn⟩ := own_len own); subst hn; clear own; have T2 := HT.out.below g; (obtain ⟨c0, c1, cf⟩ := block_cells2 T2.tb); have cI2 := T2.cell i hi; have fI := block_frozen T2.st i))
      show Z (.returned _) _
      rw [HZ.out]
      exact ⟨by rw [HC'.out]; first | done | rfl, by rw [HA'.out]; exact T2.set i 1, grown_tr (grown_of_below g) grown_set⟩
    · have HC' := Lib.hid (show bgC L at' i = 20 by rw [HC.out, if_neg (by omega), if_pos h1])
      have HA' := Lib.hid (show bgA L at' i = at' by rw [HA.out, if_neg (by rw [HC'.out]; decide)])
      have d1 : decide (0 < (l.length : Int)) = true := decide_eq_true (by omega)
      have d2 : decide (0 < l.length) = true := decide_eq_true (by omega)
      clear h0 h1
      go_enter Tryd.func22, Tryd.ntmps22
      go_wp2_with (first | ((with_reducible refine (H.out).mono ?_); rintro e w2 ⟨rfl, rfl⟩) | ((with_reducible refine (OP.out).mono ?_); rintro e w2 ⟨a, n, c, rfl, own, g⟩; (obtain ⟨-, hn⟩ := own_len own); subst hn; clear own))
      show Z (.returned _) _
      rw [HZ.out]
      exact ⟨by rw [HC'.out]; first | done | rfl, by rw [HA'.out]; exact HT.out.below g, grown_of_below g⟩
  · have d0 : ((x : Int) != 0) = true := by rw [bne_iff_ne]; omega
    have HC' := Lib.hid (show bgC L at' i = 16 by rw [HC.out, if_pos h0])
    have HA' := Lib.hid (show bgA L at' i = at' by rw [HA.out, if_neg (by rw [HC'.out]; decide)])
    clear h0
    go_enter Tryd.func22, Tryd.ntmps22
    go_wp2_with ((with_reducible refine (H.out).mono ?_); rintro e w2 ⟨rfl, rfl⟩)
    show Z (.returned _) _
    rw [HZ.out]
    exact ⟨by rw [HC'.out]; first | done | rfl, by rw [HA'.out]; exact HT.out, grown_of_below (Below.refl _ _)⟩
set_option maxRecDepth 100000 in
set_option maxHeartbeats 1000000 in
theorem end_yes (w1 : World) (pt Bs : Nat) (aA : Option Addr) (cA N : Nat) (L : List Wt) (at' : List Nat) (i : Nat) (hi : i < N) (w : World) (T : Tb w1 w pt Bs aA cA N L at') :
    Calls Tryd.prog 20 #[.pointer (some ⟨pt, 0, none⟩), .int .i64 (i : Int)] w (TurnT w1 w pt Bs aA cA N L (enA at' i) (enC at' i)) := by
  have H0 := has_any w1 pt Bs aA cA N L at' (i : Int) w T
  rw [has_yes hi] at H0
  have H := Lib.hid H0
  obtain ⟨c0, c1, cf⟩ := block_cells2 T.tb
  have cI := T.cell i hi
  have fI := block_frozen T.st i
  have hii : (i : Int) < (N : Int) := by omega
  have HT := Lib.hid T
  obtain ⟨Z, hZ⟩ : ∃ Z, Z = TurnT w1 w pt Bs aA cA N L (enA at' i) (enC at' i) := ⟨_, rfl⟩
  rw [← hZ]
  have HZ := Lib.hid hZ
  have HA := Lib.hid (show enA at' i = if enC at' i = 0 then at'.set i 2 else at' from rfl)
  have HC := Lib.hid (show enC at' i = if at'.getD i 0 = 0 then 6 else if at'.getD i 0 = 2 then 16 else 0 from rfl)
  obtain ⟨x, hx⟩ : ∃ x, x = at'.getD i 0 := ⟨_, rfl⟩
  rw [← hx] at cI HC
  clear T H0 hx hZ
  by_cases h0 : x = 0
  · have d0 : ((x : Int) == 0) = true := by rw [h0]; rfl
    have HC' := Lib.hid (show enC at' i = 6 by rw [HC.out, if_pos h0])
    have HA' := Lib.hid (show enA at' i = at' by rw [HA.out, if_neg (by rw [HC'.out]; decide)])
    clear h0
    go_enter Tryd.func20, Tryd.ntmps20
    go_wp2_with ((with_reducible refine (H.out).mono ?_); rintro e w2 ⟨rfl, rfl⟩)
    show Z (.returned _) _
    rw [HZ.out]
    exact ⟨by rw [HC'.out]; first | done | rfl, by rw [HA'.out]; exact HT.out, grown_of_below (Below.refl _ _)⟩
  · have d0 : ((x : Int) == 0) = false := by rw [beq_eq_false_iff_ne]; omega
    by_cases h1 : x = 2
    · have d1 : ((x : Int) == 2) = true := by rw [h1]; rfl
      have HC' := Lib.hid (show enC at' i = 16 by rw [HC.out, if_neg h0, if_pos h1])
      have HA' := Lib.hid (show enA at' i = at' by rw [HA.out, if_neg (by rw [HC'.out]; decide)])
      clear h0 h1
      go_enter Tryd.func20, Tryd.ntmps20
      go_wp2_with ((with_reducible refine (H.out).mono ?_); rintro e w2 ⟨rfl, rfl⟩)
      show Z (.returned _) _
      rw [HZ.out]
      exact ⟨by rw [HC'.out]; first | done | rfl, by rw [HA'.out]; exact HT.out, grown_of_below (Below.refl _ _)⟩
    · have d1 : ((x : Int) == 2) = false := by rw [beq_eq_false_iff_ne]; omega
      have HC' := Lib.hid (show enC at' i = 0 by rw [HC.out, if_neg h0, if_neg h1])
      have HA' := Lib.hid (show enA at' i = at'.set i 2 by rw [HA.out, if_pos HC'.out])
      clear h0 h1
      go_enter Tryd.func20, Tryd.ntmps20
      go_wp2_with ((with_reducible refine (H.out).mono ?_); rintro e w2 ⟨rfl, rfl⟩)
      show Z (.returned _) _
      rw [HZ.out]
      exact ⟨by rw [HC'.out]; first | done | rfl, by rw [HA'.out]; exact HT.out.set i 2, grown_set⟩
set_option maxRecDepth 100000 in
set_option maxHeartbeats 1000000 in
theorem same_any (va vb : Value) (la lb' : List Nat) (w : World) (ha : RdI w va la) (hb : RdI w vb lb') :
    Calls Tryd.prog 25 #[va, vb] w fun e w' => e = .returned (.bool (decide (la = lb'))) ∧ Below w.heap.size w w' := by
  obtain ⟨aa, ca, rfl, ha1, ha2, ra⟩ := ha.open
  obtain ⟨ab, cb, rfl, hb1, hb2, rb⟩ := hb.open
  have HA := Lib.hid ra
  have HB := Lib.hid rb
  clear ha hb ra rb
  obtain ⟨R, hR⟩ : ∃ R, R = decide (la = lb') := ⟨_, rfl⟩
  rw [← hR]
  have HR := Lib.hid hR
  clear hR
  by_cases hl : la.length = lb'.length
  · have dl : ((la.length : Int) != (lb'.length : Int)) = false := by rw [hl]; simp
    have HL := Lib.hid hl
    clear hl
    go_enter Tryd.func25, Tryd.ntmps25
    go_wp2_with fail
    go_loopw [5] (fun t wr => ∃ k : Nat, k ≤ la.length ∧ t = .int .i64 (k : Int) ∧ Hid (la.take k = lb'.take k) ∧ Below w.heap.size w wr) (fun t _ => la.length - (intOf t).toNat)
    case atStart => exact ⟨0, Nat.zero_le _, rfl, Lib.hid rfl, Below.refl _ _⟩
    case round =>
      obtain ⟨k, hk, rfl, HE, bel⟩ := hrel
      by_cases hlt : k < la.length
      · have hlt2 : k < lb'.length := by rw [← HL.out]; exact hlt
        obtain ⟨ba, oa, rfl, la0, xa⟩ := (HA.out.below bel (Nat.le_refl _)).cell k hlt
        obtain ⟨bb, ob, rfl, lb0, xb⟩ := (HB.out.below bel (Nat.le_refl _)).cell k hlt2
        have la' := la0
        obtain ⟨x, hx⟩ : ∃ x, x = la[k] := ⟨_, rfl⟩
        obtain ⟨y, hy⟩ : ∃ y, y = lb'[k] := ⟨_, rfl⟩
        rw [← hx] at xa
        rw [← hy] at xb
        have hk1 : (k : Int) < (la.length : Int) := by omega
        have hk2 : (k : Int) < (lb'.length : Int) := by omega
        by_cases he : x = y
        · have dq : ((x : Int) != (y : Int)) = false := by rw [he]; simp
          have HE' := Lib.hid (show la.take (k + 1) = lb'.take (k + 1) by rw [List.take_succ_eq_append_getElem hlt, List.take_succ_eq_append_getElem hlt2, HE.out, ← hx, ← hy, he])
          clear he hx hy
          go_wp2_with fail
          refine g_start (by kernel_rfl) ?_
          refine g_take (i := 0) (d := (some 17)) (v := ?_) rfl rfl (by kernel_rfl) (fun _ _ _ h => h) (by rfl) (fun w' hb' => ?_) ?_
          rotate_left
          · (try go_simp); (try with_reducible rfl)
          try simp only [Act.put, List.setIfInBounds_toArray, List.set_cons_zero, List.set_cons_succ]
          refine g_take (i := 1) (d := (some 18)) (v := ?_) rfl rfl (by kernel_rfl) (fun _ _ _ h => h) (by rfl) (fun w' hb' => ?_) ?_
          rotate_left
          · (try go_simp); (try with_reducible rfl)
          try simp only [Act.put, List.setIfInBounds_toArray, List.set_cons_zero, List.set_cons_succ]
          refine g_take (i := 2) (d := (some 19)) (v := ?_) rfl rfl (by kernel_rfl) (fun _ _ _ h => h) (by rfl) (fun w' hb' => ?_) ?_
          rotate_left
          · (try go_simp); (try with_reducible rfl)
          try simp only [Act.put, List.setIfInBounds_toArray, List.set_cons_zero, List.set_cons_succ]
          refine g_take (i := 3) (d := (some 20)) (v := ?_) rfl rfl (by kernel_rfl) (fun _ _ _ h => h) (by rfl) (fun w' hb' => ?_) ?_
          rotate_left
          · have z := (hb'.cell (p := ⟨ba, oa + k, none⟩) la').trans xa; (try go_simp); (try with_reducible rfl)
          try simp only [Act.put, List.setIfInBounds_toArray, List.set_cons_zero, List.set_cons_succ]
          refine g_take (i := 4) (d := (some 21)) (v := ?_) rfl rfl (by kernel_rfl) (fun _ _ _ h => h) (by rfl) (fun w' hb' => ?_) ?_
          rotate_left
          · (try go_simp); (try with_reducible rfl)
          try simp only [Act.put, List.setIfInBounds_toArray, List.set_cons_zero, List.set_cons_succ]
          refine g_take (i := 5) (d := (some 22)) (v := ?_) rfl rfl (by kernel_rfl) (fun _ _ _ h => h) (by rfl) (fun w' hb' => ?_) ?_
          rotate_left
          · (try go_simp); (try with_reducible rfl)
          try simp only [Act.put, List.setIfInBounds_toArray, List.set_cons_zero, List.set_cons_succ]
          refine g_take (i := 6) (d := (some 23)) (v := ?_) rfl rfl (by kernel_rfl) (fun _ _ _ h => h) (by rfl) (fun w' hb' => ?_) ?_
          rotate_left
          · (try go_simp); (try with_reducible rfl)
          try simp only [Act.put, List.setIfInBounds_toArray, List.set_cons_zero, List.set_cons_succ]
          refine g_take (i := 7) (d := (some 24)) (v := ?_) rfl rfl (by kernel_rfl) (fun _ _ _ h => h) (by rfl) (fun w' hb' => ?_) ?_
          rotate_left
          · have z := (hb'.cell (p := ⟨bb, ob + k, none⟩) lb0).trans xb; (try go_simp); (try with_reducible rfl)
          try simp only [Act.put, List.setIfInBounds_toArray, List.set_cons_zero, List.set_cons_succ]
          refine g_take (i := 8) (d := (some 25)) (v := ?_) rfl rfl (by kernel_rfl) (fun _ _ _ h => h) (by rfl) (fun w' hb' => ?_) ?_
          rotate_left
          · (try go_simp); (try with_reducible rfl)
          try simp only [Act.put, List.setIfInBounds_toArray, List.set_cons_zero, List.set_cons_succ]
          refine g_done (by kernel_rfl) ?_
          go_wp2_with fail
          exact ⟨⟨k + 1, by omega, by push_cast; rfl, HE', bel.drew⟩, by simp [intOf]; omega⟩
        · have dq : ((x : Int) != (y : Int)) = true := by rw [bne_iff_ne]; omega
          have HF := Lib.hid (show R = false by
            rw [HR.out, decide_eq_false_iff_not]
            intro e9
            exact he (by rw [hx, hy]; simp only [e9]))
          clear he hx hy
          go_wp2_with fail
          refine g_start (by kernel_rfl) ?_
          refine g_take (i := 0) (d := (some 17)) (v := ?_) rfl rfl (by kernel_rfl) (fun _ _ _ h => h) (by rfl) (fun w' hb' => ?_) ?_
          rotate_left
          · (try go_simp); (try with_reducible rfl)
          try simp only [Act.put, List.setIfInBounds_toArray, List.set_cons_zero, List.set_cons_succ]
          refine g_take (i := 1) (d := (some 18)) (v := ?_) rfl rfl (by kernel_rfl) (fun _ _ _ h => h) (by rfl) (fun w' hb' => ?_) ?_
          rotate_left
          · (try go_simp); (try with_reducible rfl)
          try simp only [Act.put, List.setIfInBounds_toArray, List.set_cons_zero, List.set_cons_succ]
          refine g_take (i := 2) (d := (some 19)) (v := ?_) rfl rfl (by kernel_rfl) (fun _ _ _ h => h) (by rfl) (fun w' hb' => ?_) ?_
          rotate_left
          · (try go_simp); (try with_reducible rfl)
          try simp only [Act.put, List.setIfInBounds_toArray, List.set_cons_zero, List.set_cons_succ]
          refine g_take (i := 3) (d := (some 20)) (v := ?_) rfl rfl (by kernel_rfl) (fun _ _ _ h => h) (by rfl) (fun w' hb' => ?_) ?_
          rotate_left
          · have z := (hb'.cell (p := ⟨ba, oa + k, none⟩) la').trans xa; (try go_simp); (try with_reducible rfl)
          try simp only [Act.put, List.setIfInBounds_toArray, List.set_cons_zero, List.set_cons_succ]
          refine g_take (i := 4) (d := (some 21)) (v := ?_) rfl rfl (by kernel_rfl) (fun _ _ _ h => h) (by rfl) (fun w' hb' => ?_) ?_
          rotate_left
          · (try go_simp); (try with_reducible rfl)
          try simp only [Act.put, List.setIfInBounds_toArray, List.set_cons_zero, List.set_cons_succ]
          refine g_take (i := 5) (d := (some 22)) (v := ?_) rfl rfl (by kernel_rfl) (fun _ _ _ h => h) (by rfl) (fun w' hb' => ?_) ?_
          rotate_left
          · (try go_simp); (try with_reducible rfl)
          try simp only [Act.put, List.setIfInBounds_toArray, List.set_cons_zero, List.set_cons_succ]
          refine g_take (i := 6) (d := (some 23)) (v := ?_) rfl rfl (by kernel_rfl) (fun _ _ _ h => h) (by rfl) (fun w' hb' => ?_) ?_
          rotate_left
          · (try go_simp); (try with_reducible rfl)
          try simp only [Act.put, List.setIfInBounds_toArray, List.set_cons_zero, List.set_cons_succ]
          refine g_take (i := 7) (d := (some 24)) (v := ?_) rfl rfl (by kernel_rfl) (fun _ _ _ h => h) (by rfl) (fun w' hb' => ?_) ?_
          rotate_left
          · have z := (hb'.cell (p := ⟨bb, ob + k, none⟩) lb0).trans xb; (try go_simp); (try with_reducible rfl)
          try simp only [Act.put, List.setIfInBounds_toArray, List.set_cons_zero, List.set_cons_succ]
          refine g_take (i := 8) (d := (some 25)) (v := ?_) rfl rfl (by kernel_rfl) (fun _ _ _ h => h) (by rfl) (fun w' hb' => ?_) ?_
          rotate_left
          · (try go_simp); (try with_reducible rfl)
          try simp only [Act.put, List.setIfInBounds_toArray, List.set_cons_zero, List.set_cons_succ]
          refine g_done (by kernel_rfl) ?_
          go_wp2_with fail
          go_ret
          exact ⟨by rw [HF.out]; first | done | rfl, bel.drew⟩
      · obtain rfl : k = la.length := by omega
        have HF := Lib.hid (show R = true by
          have h := HE.out
          rw [List.take_length, HL.out, List.take_length] at h
          rw [HR.out, h]; simp)
        go_wp2_with fail
        go_ret
        exact ⟨by rw [HF.out]; first | done | rfl, bel⟩
  · have dl : ((la.length : Int) != (lb'.length : Int)) = true := by rw [bne_iff_ne]; omega
    have HF := Lib.hid (show R = false by rw [HR.out, decide_eq_false_iff_not]; intro e9; exact hl (by rw [e9]))
    clear hl
    go_enter Tryd.func25, Tryd.ntmps25
    go_wp2_with fail
    go_ret
    exact ⟨by rw [HF.out]; first | done | rfl, Below.refl _ _⟩
end Go.Proofs.YtjmfiekgpoonjaaDoor
