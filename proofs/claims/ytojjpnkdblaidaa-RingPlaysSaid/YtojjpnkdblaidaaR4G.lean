/- The document's ring: May, Bad, Has; few. Written by wip/tools/gen4g.py. -/
import Derived.Test.YtojjpnkdblaidaaR4F
namespace Go.Proofs.Ytojjpnkdblaidaa
open Go Go.RowKit Go.Maps
set_option linter.unusedVariables false
set_option linter.unusedSimpArgs false
theorem ret_b {a b : Bool} (h : a = b) : Ending.returned (.bool a) = Ending.returned (.bool b) := by rw [h]
theorem cells3 {w : World} {B : Nat} {a0 a1 a2 : Value} {t : TypeId} (h : w.heap[B]? = some (.cells #[a0, a1, a2] t (0, 0))) :
    w.cell? ⟨B, 0, none⟩ = some a0 ∧ w.cell? ⟨B, 1, none⟩ = some a1 ∧ w.cell? ⟨B, 2, none⟩ = some a2 := by
  refine ⟨?_, ?_, ?_⟩
  all_goals simp [World.cell?, h]
theorem rdv_open {w : World} {v : Value} {xs : List Int} (h : RdV w v (xs.map iv)) : ∃ ao cap, v = .slice ao xs.length cap ∧ xs.length ≤ cap ∧ cap ≤ maxLen ∧ Hid (0 < xs.length → ∃ b off, ao = some ⟨b, off, none⟩ ∧ b < w.heap.size ∧ ∀ i (hi : i < xs.length), w.cell? ⟨b, off + i, none⟩ = some (.int .i64 xs[i])) := by
  obtain ⟨ao, cap, rfl, hc, hm, _, HA⟩ := h
  rw [List.length_map] at hc HA
  refine ⟨ao, cap, by rw [List.length_map], hc, hm, Lib.hid fun hp => ?_⟩
  obtain ⟨b, off, h1, h2, h3⟩ := HA hp
  refine ⟨b, off, h1, h2, fun i hi => ?_⟩
  rw [h3 i hi, List.getElem?_map, List.getElem?_eq_getElem hi]; rfl
theorem few_any (v : Value) (n : Nat) (ao : Option Addr) (cap : Nat) (hv : v = .slice ao n cap) (hc : n ≤ cap) (w : World) :
    Calls Try.prog 10 #[v] w fun e w' => e = .returned (.slice ao (min n 120) cap) ∧ w = w' := by
  subst hv
  by_cases h : n ≤ 120
  · rw [Nat.min_eq_left h]
    go_enter Try.func10, Try.ntmps10
    go_wp2_with fail
    go_ret
    exact ⟨rfl, rfl⟩
  · rw [Nat.min_eq_right (by omega)]
    go_enter Try.func10, Try.ntmps10
    go_wp2_with fail
    go_ret
    exact ⟨rfl, rfl⟩
set_option maxRecDepth 100000 in
theorem may_any (p : Int) (v : Value) (xs : List Int) (hx : xs.length ≤ 1000) (w : World) (h : RdV w v (xs.map iv)) :
    Calls Try.prog 7 #[.int .i64 p, v] w fun e w' => e = .returned (.bool (mayN p xs)) ∧ w = w' := by
  obtain ⟨ao, cap, rfl, hc, hm, HA⟩ := rdv_open h
  clear h
  go_enter Try.func7, Try.ntmps7
  go_wp2_with fail
  go_loop [5] (fun i => ∃ j : Nat, j ≤ xs.length ∧ i = .int .i64 (j : Int) ∧ Hid ((xs.take j).all (fun q => decide (0 ≤ q) && decide (q < p)) = true)) (fun i => 1000 - (intOf i).toNat)
  case atStart => exact ⟨0, Nat.zero_le _, rfl, Lib.hid (by simp)⟩
  case round =>
    obtain ⟨j, hj, rfl, hall⟩ := hrel
    by_cases hjx : j < xs.length
    · obtain ⟨b, off, rfl, hb, hcells⟩ := HA.out (by omega)
      have hc0 := hcells j hjx
      have ht : xs.take (j + 1) = xs.take j ++ [xs[j]] := by rw [List.take_succ_eq_append_getElem hjx]
      have hmem : xs[j] ∈ xs := List.getElem_mem hjx
      obtain ⟨x, ex⟩ : ∃ x, x = xs[j] := ⟨_, rfl⟩
      rw [← ex] at hc0 ht hmem
      have HT := Lib.hid ht
      have HM := Lib.hid hmem
      clear ht hmem ex hcells
      by_cases h1 : 0 ≤ x
      · by_cases h2 : x < p
        · have h1' : ¬ x < 0 := by omega
          have h2' : ¬ p ≤ x := by omega
          go_wp2_with fail
          go_round
          case rel => exact ⟨j + 1, by omega, by go_num, Lib.hid (by rw [HT.out, List.all_append, hall.out]; simp [h1, h2])⟩
          case measure => simp [intOf]; omega
        · have h2' : p ≤ x := by omega
          have h1' : ¬ x < 0 := by omega
          go_wp2_with fail
          go_ret
          refine ⟨ret_b ?_, rfl⟩
          symm; unfold mayN; rw [Bool.and_eq_false_iff, List.all_eq_false]
          exact .inr ⟨x, HM.out, by simp [h2]⟩
      · have h1' : x < 0 := by omega
        go_wp2_with fail
        go_ret
        refine ⟨ret_b ?_, rfl⟩
        symm; unfold mayN; rw [Bool.and_eq_false_iff, List.all_eq_false]
        exact .inr ⟨x, HM.out, by simp; omega⟩
    · have hx2 := hall.out
      rw [List.take_of_length_le (by omega)] at hx2
      have HX := Lib.hid hx2
      clear hx2
      by_cases h1 : 1 ≤ p
      · by_cases h2 : p ≤ 64
        · go_wp2_with fail
          go_ret
          exact ⟨ret_b (by unfold mayN; rw [HX.out]; simp [h1, h2]), rfl⟩
        · go_wp2_with fail
          go_ret
          exact ⟨ret_b (by unfold mayN; rw [show decide (1 ≤ p ∧ p ≤ 64) = false from by rw [decide_eq_false_iff_not]; omega]; rfl), rfl⟩
      · go_wp2_with fail
        go_ret
        exact ⟨ret_b (by unfold mayN; rw [show decide (1 ≤ p ∧ p ≤ 64) = false from by rw [decide_eq_false_iff_not]; omega]; rfl), rfl⟩
set_option maxRecDepth 100000 in
theorem refBad_any (n : Int) (rv lv : Value) (xs : List Int) (hx : xs.length ≤ 1000) (p : Int) (w : World) (h : RdV w rv (xs.map iv)) (hl : ∃ ao m c, lv = .slice ao m c) :
    Calls Try.prog 16 #[.agg #[.int .i64 n, rv, lv], .int .i64 p] w fun e w' => e = .returned (.bool (decide (p ∈ xs))) ∧ Below w.heap.size w w' := by
  obtain ⟨ao, cap, rfl, hc, hm, HA⟩ := rdv_open h
  obtain ⟨a1, n1, c1, rfl⟩ := hl
  clear h
  go_enter Try.func16, Try.ntmps16
  go_wp2_with fail
  go_loop [5] (fun i => ∃ j : Nat, j ≤ xs.length ∧ i = .int .i64 (j : Int) ∧ Hid (¬ p ∈ xs.take j)) (fun i => 1000 - (intOf i).toNat)
  case atStart => exact ⟨0, Nat.zero_le _, rfl, Lib.hid (by simp)⟩
  case round =>
    obtain ⟨j, hj, rfl, hall⟩ := hrel
    by_cases hjx : j < xs.length
    · obtain ⟨b, off, rfl, hb, hcells⟩ := HA.out (by omega)
      have hc0 := hcells j hjx
      have ht : xs.take (j + 1) = xs.take j ++ [xs[j]] := by rw [List.take_succ_eq_append_getElem hjx]
      have hmem : xs[j] ∈ xs := List.getElem_mem hjx
      obtain ⟨x, ex⟩ : ∃ x, x = xs[j] := ⟨_, rfl⟩
      rw [← ex] at hc0 ht hmem
      have HT := Lib.hid ht
      have HM := Lib.hid hmem
      clear ht hmem ex hcells
      by_cases h1 : x = p
      · have h2 := int_eqb h1
        have H1 := Lib.hid h1
        clear h1
        go_wp2_with fail
        go_ret
        exact ⟨ret_b (by symm; rw [decide_eq_true_eq, ← H1.out]; exact HM.out), by go_grown⟩
      · have h2 := int_neb h1
        have H1 := Lib.hid h1
        clear h1
        go_wp2_with fail
        go_round
        case rel => exact ⟨j + 1, by omega, by go_num, Lib.hid (by rw [HT.out, List.mem_append, List.mem_singleton]; rintro (h | h); exact hall.out h; exact H1.out h.symm)⟩
        case measure => simp [intOf]; omega
    · go_wp2_with fail
      go_ret
      have hx2 := hall.out
      rw [List.take_of_length_le (by omega)] at hx2
      exact ⟨ret_b (by symm; simpa using hx2), by go_grown⟩
set_option maxRecDepth 100000 in
set_option maxHeartbeats 1000000 in
theorem refHas_any (n : Int) (rv lv : Value) (T : List St) (hT : T.length ≤ 1000) (s : St) (w : World) (hr : ∃ ao m c, rv = .slice ao m c) (h : RdS w lv T) :
    Calls Try.prog 14 #[.agg #[.int .i64 n, rv, lv], s.v] w fun e w' => e = .returned (.bool (decide (s ∈ T))) ∧ Below w.heap.size w w' := by
  obtain ⟨ao, cap, rfl, hc, hm, hwf, HA⟩ := h
  obtain ⟨a1, n1, c1, rfl⟩ := hr
  unfold St.v
  go_enter Try.func14, Try.ntmps14
  go_wp2_with fail
  obtain ⟨q1, q2, q3, q4⟩ := two_allocs w (.cells #[.int .i64 n, .slice a1 n1 c1, .slice ao T.length cap] 27) (.cells #[.int .i64 s.a, .int .i64 s.b, .int .i64 s.c, .int .i64 s.d, .int .i64 s.e] 39)
  have Be : Below w.heap.size w ((w.alloc (.cells #[.int .i64 n, .slice a1 n1 c1, .slice ao T.length cap] 27)).alloc (.cells #[.int .i64 s.a, .int .i64 s.b, .int .i64 s.c, .int .i64 s.d, .int .i64 s.e] 39)) := ((Below.refl _ _).alloc (Nat.le_refl _) _).alloc (by simp) _
  obtain ⟨W, hW⟩ : ∃ W, W = (w.alloc (.cells #[.int .i64 n, .slice a1 n1 c1, .slice ao T.length cap] 27)).alloc (.cells #[.int .i64 s.a, .int .i64 s.b, .int .i64 s.c, .int .i64 s.d, .int .i64 s.e] 39) := ⟨_, rfl⟩
  rw [← hW] at q1 q2 Be ⊢
  have lq2 := lt_of_block q2
  clear hW q3 q4
  have fr : Below W.heap.size W W := Below.refl _ _
  go_loopw [5] (fun i wr => ∃ j : Nat, j ≤ T.length ∧ i = .int .i64 (j : Int) ∧ Hid (¬ s ∈ T.take j) ∧ Below W.heap.size W wr) (fun i _ => 1000 - (intOf i).toNat)
  case atStart => exact ⟨0, Nat.zero_le _, rfl, Lib.hid (by simp), Below.refl _ _⟩
  case round =>
    obtain ⟨j, hj, rfl, hall, bel⟩ := hrel
    have r1 := (bel.block _ (lt_of_block q1)).trans q1
    have r2 := (bel.block _ (lt_of_block q2)).trans q2
    obtain ⟨g0, g1, g2⟩ := cells3 r1
    by_cases hjx : j < T.length
    · obtain ⟨b, off, rfl, hb, hcells⟩ := HA.out (by omega)
      have hc5 := hcells j hjx
      have ht : T.take (j + 1) = T.take j ++ [T[j]] := by rw [List.take_succ_eq_append_getElem hjx]
      have hmem : T[j] ∈ T := List.getElem_mem hjx
      obtain ⟨t, ex⟩ : ∃ t, t = T[j] := ⟨_, rfl⟩
      rw [← ex] at hc5 ht hmem
      have HT := Lib.hid ht
      have HM := Lib.hid hmem
      have RB := Lib.hid (fun (w' : World) (hb' : Below wr.drew.heap.size wr.drew w') => (cells3 ((hb'.block _ (lt_of_block r1)).trans r1)).2.2)
      have SC := Lib.hid (fun (w' : World) (hb' : Below wr.drew.heap.size wr.drew w') => cells5 ((hb'.block _ (lt_of_block r2)).trans r2))
      have AC := Lib.hid (fun (w' : World) (hb' : Below wr.drew.heap.size wr.drew w') => hc5.of (((hb'.block b (Nat.lt_of_lt_of_le hb (Nat.le_trans Be.size bel.size))).trans (bel.block b (Nat.lt_of_lt_of_le hb Be.size))).trans (Be.block b hb)))
      have hE := eq_st t s
      clear ht hmem ex hcells hc5
      cases hD : decide (t = s) with
      | true =>
        rw [hD] at hE
        have HD := Lib.hid hD
        clear hD
        go_wp2_with fail
        refine g_start (by kernel_rfl) ?_
        refine g_take (i := 0) (d := (some 13)) (v := ?_) rfl rfl (by kernel_rfl) (fun _ _ _ h => h) (by rfl) (fun w' hb' => ?_) ?_
        rotate_left
        · (try go_simp); (try with_reducible rfl)
        try simp only [Act.put, List.setIfInBounds_toArray, List.set_cons_zero, List.set_cons_succ]
        refine g_take (i := 1) (d := (some 14)) (v := ?_) rfl rfl (by kernel_rfl) (fun _ _ _ h => h) (by rfl) (fun w' hb' => ?_) ?_
        rotate_left
        · have hc := RB.out _ hb'; (try go_simp); (try with_reducible rfl)
        try simp only [Act.put, List.setIfInBounds_toArray, List.set_cons_zero, List.set_cons_succ]
        refine g_take (i := 2) (d := (some 15)) (v := ?_) rfl rfl (by kernel_rfl) (fun _ _ _ h => h) (by rfl) (fun w' hb' => ?_) ?_
        rotate_left
        · (try go_simp); (try with_reducible rfl)
        try simp only [Act.put, List.setIfInBounds_toArray, List.set_cons_zero, List.set_cons_succ]
        refine g_take (i := 3) (d := (some 16)) (v := ?_) rfl rfl (by kernel_rfl) (fun _ _ _ h => h) (by rfl) (fun w' hb' => ?_) ?_
        rotate_left
        · (try go_simp); (try with_reducible rfl)
        try simp only [Act.put, List.setIfInBounds_toArray, List.set_cons_zero, List.set_cons_succ]
        refine g_take (i := 4) (d := (some 17)) (v := ?_) rfl rfl (by kernel_rfl) (fun _ _ _ h => h) (by rfl) (fun w' hb' => ?_) ?_
        rotate_left
        · have hc := AC.out _ hb'; obtain ⟨k1, k2, k3, k4, k5⟩ := hc; (try go_simp); (try with_reducible rfl)
        try simp only [Act.put, List.setIfInBounds_toArray, List.set_cons_zero, List.set_cons_succ]
        refine g_take (i := 5) (d := (some 18)) (v := ?_) rfl rfl (by kernel_rfl) (fun _ _ _ h => h) (by rfl) (fun w' hb' => ?_) ?_
        rotate_left
        · have hc := SC.out _ hb'; (try go_simp); (try with_reducible rfl)
        try simp only [Act.put, List.setIfInBounds_toArray, List.set_cons_zero, List.set_cons_succ]
        refine g_take (i := 6) (d := (some 19)) (v := ?_) rfl rfl (by kernel_rfl) (fun _ _ _ h => h) (by rfl) (fun w' hb' => ?_) ?_
        rotate_left
        · (try go_simp); (try with_reducible rfl)
        try simp only [Act.put, List.setIfInBounds_toArray, List.set_cons_zero, List.set_cons_succ]
        refine g_done (by kernel_rfl) ?_
        go_wp2_with fail
        go_ret
        exact ⟨ret_b (by symm; rw [decide_eq_true_eq, ← of_decide_eq_true HD.out]; exact HM.out), chain Be bel.drew⟩
      | false =>
        rw [hD] at hE
        have HD := Lib.hid hD
        clear hD
        go_wp2_with fail
        refine g_start (by kernel_rfl) ?_
        refine g_take (i := 0) (d := (some 13)) (v := ?_) rfl rfl (by kernel_rfl) (fun _ _ _ h => h) (by rfl) (fun w' hb' => ?_) ?_
        rotate_left
        · (try go_simp); (try with_reducible rfl)
        try simp only [Act.put, List.setIfInBounds_toArray, List.set_cons_zero, List.set_cons_succ]
        refine g_take (i := 1) (d := (some 14)) (v := ?_) rfl rfl (by kernel_rfl) (fun _ _ _ h => h) (by rfl) (fun w' hb' => ?_) ?_
        rotate_left
        · have hc := RB.out _ hb'; (try go_simp); (try with_reducible rfl)
        try simp only [Act.put, List.setIfInBounds_toArray, List.set_cons_zero, List.set_cons_succ]
        refine g_take (i := 2) (d := (some 15)) (v := ?_) rfl rfl (by kernel_rfl) (fun _ _ _ h => h) (by rfl) (fun w' hb' => ?_) ?_
        rotate_left
        · (try go_simp); (try with_reducible rfl)
        try simp only [Act.put, List.setIfInBounds_toArray, List.set_cons_zero, List.set_cons_succ]
        refine g_take (i := 3) (d := (some 16)) (v := ?_) rfl rfl (by kernel_rfl) (fun _ _ _ h => h) (by rfl) (fun w' hb' => ?_) ?_
        rotate_left
        · (try go_simp); (try with_reducible rfl)
        try simp only [Act.put, List.setIfInBounds_toArray, List.set_cons_zero, List.set_cons_succ]
        refine g_take (i := 4) (d := (some 17)) (v := ?_) rfl rfl (by kernel_rfl) (fun _ _ _ h => h) (by rfl) (fun w' hb' => ?_) ?_
        rotate_left
        · have hc := AC.out _ hb'; obtain ⟨k1, k2, k3, k4, k5⟩ := hc; (try go_simp); (try with_reducible rfl)
        try simp only [Act.put, List.setIfInBounds_toArray, List.set_cons_zero, List.set_cons_succ]
        refine g_take (i := 5) (d := (some 18)) (v := ?_) rfl rfl (by kernel_rfl) (fun _ _ _ h => h) (by rfl) (fun w' hb' => ?_) ?_
        rotate_left
        · have hc := SC.out _ hb'; (try go_simp); (try with_reducible rfl)
        try simp only [Act.put, List.setIfInBounds_toArray, List.set_cons_zero, List.set_cons_succ]
        refine g_take (i := 6) (d := (some 19)) (v := ?_) rfl rfl (by kernel_rfl) (fun _ _ _ h => h) (by rfl) (fun w' hb' => ?_) ?_
        rotate_left
        · (try go_simp); (try with_reducible rfl)
        try simp only [Act.put, List.setIfInBounds_toArray, List.set_cons_zero, List.set_cons_succ]
        refine g_done (by kernel_rfl) ?_
        go_wp2_with fail
        go_roundw
        case rel => exact ⟨j + 1, by omega, by go_num, Lib.hid (by rw [HT.out, List.mem_append, List.mem_singleton]; rintro (h | h); exact hall.out h; exact of_decide_eq_false HD.out h.symm), bel.drew⟩
        case measure => simp [intOf]; omega
    · go_wp2_with fail
      go_ret
      have hx2 := hall.out
      rw [List.take_of_length_le (by omega)] at hx2
      exact ⟨ret_b (by symm; simpa using hx2), chain Be bel⟩
end Go.Proofs.Ytojjpnkdblaidaa
