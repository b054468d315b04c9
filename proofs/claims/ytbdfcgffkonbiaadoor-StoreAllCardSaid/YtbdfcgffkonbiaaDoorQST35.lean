/- Stores: the document's Same of any two, the program's, New, Room, Scan. Written by wip/tools/gen13f.py. -/
import Derived.Test.YtbdfcgffkonbiaaDoorQST26
import Derived.Test.YtbdfcgffkonbiaaDoorQST28
import Derived.Test.YtbdfcgffkonbiaaDoorQST20
import Derived.Test.YtbdfcgffkonbiaaDoorQST33
import Derived.Test.YtbdfcgffkonbiaaDoorQST34
namespace Go.Proofs.YtbdfcgffkonbiaaDoor
open Go Go.RowKit
set_option linter.unusedVariables false
set_option linter.unusedSimpArgs false
set_option maxHeartbeats 1000000 in
theorem refSameG_any (v u : Value) (l m : List It) (w : World) (h : RdI w v l) (hu : RdI w u m) (h66 : l.length ≤ 100) (h67 : m.length ≤ 100) :
    Calls Tryd.prog 28 #[v, u] w fun e w' => e = .returned (.bool (lsEq l m)) ∧ ∃ n, w' = w.drewN n := by
  obtain ⟨ao, cap, rfl, hc, hm, hr⟩ := RdK.open h
  obtain ⟨ao2, cap2, rfl, hc2, hm2, hr2⟩ := RdK.open hu
  have hr : RdI w (.slice ao l.length cap) l := hr
  have hr2 : RdI w (.slice ao2 m.length cap2) m := hr2
  have HRD := Lib.hid hr
  have HRD2 := Lib.hid hr2
  obtain ⟨R, hR⟩ : ∃ R, R = lsEq l m := ⟨_, rfl⟩
  rw [← hR]
  have HR := Lib.hid hR
  clear h hr hu hr2 hR
  by_cases hlm : l.length = m.length
  · have HLM := Lib.hid hlm
    have hb1 : ((l.length : Int) != (m.length : Int)) = false := by rw [bne_eq_false_iff_eq]; omega
    rw [← hlm] at hb1 ⊢
    have hb2 : ((l.length : Int) != (l.length : Int)) = false := by rw [bne_eq_false_iff_eq]
    clear hlm hb1
    go_enter Tryd.func28, Tryd.ntmps28
    go_wp2_with fail
    go_loopw [5] (fun i wr => ∃ (j n0 : Nat), j ≤ l.length ∧ i = .int .i64 (j : Int) ∧ Hid (wr = w.drewN n0) ∧ Hid (l.take j = m.take j)) (fun i _ => 200 - (intOf i).toNat)
    case atStart => exact ⟨0, 0, Nat.zero_le _, rfl, (rfl : w = w.drewN 0), Lib.hid rfl⟩
    case round =>
      obtain ⟨j, n0, hj, rfl, HW, HE⟩ := hrel
      by_cases hlt : j < l.length
      · have bel : Below w.heap.size w wr := by rw [HW.out]; exact below_drewN (Below.refl _ _)
        have hlt2 : j < m.length := by have := HLM.out; omega
        have hr := HRD.out
        have R1 := hr.below bel (Nat.le_refl _)
        obtain ⟨b, off, rfl, hb, c0, c1, c2, c3, c4⟩ := rdi_cells R1 j hlt
        have hr2 := HRD2.out
        rw [← HLM.out] at hr2
        have R2 := hr2.below bel (Nat.le_refl _)
        obtain ⟨b2, off2, rfl, hb2, d0, d1, d2, d3, d4⟩ := rdi_cells R2 j hlt2
        obtain ⟨x, hx⟩ : ∃ x, x = l[j]'hlt := ⟨_, rfl⟩
        obtain ⟨y, hy⟩ : ∃ y, y = m[j]'hlt2 := ⟨_, rfl⟩
        rw [← hx] at c0 c1 c2 c3 c4
        rw [← hy] at d0 d1 d2 d3 d4
        by_cases hxy : x = y
        · have HN := Lib.hid (take_same hlt hlt2 HE.out (by rw [← hx, ← hy]; exact hxy))
          clear hx hy hr hr2 R1 R2 hlt2
          subst hxy
          have NE := fun W => it_ne_same x W
          unfold itV at NE
          go_wp2_with fail
          go_quiet (fail)
          have bel2 : Hid (wr.drewN nq = w.drewN (n0 + nq)) := by have h := HW.out; exact Lib.hid (by rw [h, World.drewN_drewN])
          go_wp2_with fail
          exact ⟨⟨j + 1, n0 + nq, by omega, by push_cast; rfl, bel2, HN⟩, by simp [intOf]; omega⟩
        · have HF := Lib.hid (show R = false by rw [HR.out]; exact lsEq_at hlt hlt2 (by rw [← hx, ← hy]; exact hxy))
          have NE := fun W => it_ne_yes x y hxy W
          unfold itV at NE
          clear hx hy hr hr2 R1 R2 hxy hlt2
          go_wp2_with fail
          go_quiet (fail)
          have bel2 : Hid (wr.drewN nq = w.drewN (n0 + nq)) := by have h := HW.out; exact Lib.hid (by rw [h, World.drewN_drewN])
          go_wp2_with fail
          go_ret
          exact ⟨by rw [HF.out]; rfl, _, bel2.out⟩
      · obtain rfl : j = l.length := by omega
        have HF := Lib.hid (show R = true by
          have h := HE.out
          rw [List.take_length, HLM.out, List.take_length] at h
          rw [HR.out, h]; exact lsEq_yes)
        go_wp2_with fail
        go_ret
        exact ⟨by rw [HF.out]; rfl, _, HW.out⟩
  · have HF := Lib.hid (show R = false by rw [HR.out]; exact lsEq_len hlm)
    have hb1 : ((l.length : Int) != (m.length : Int)) = true := by rw [bne_iff_ne]; omega
    clear hlm
    go_enter Tryd.func28, Tryd.ntmps28
    go_wp2_with fail
    go_ret
    exact ⟨by rw [HF.out]; rfl, 0, rfl⟩
noncomputable def sameT (lv lv' : Nat → List It) (vs vs' : Nat → Int) : Bool := (List.range 16).all fun b => !unlB lv lv' vs vs' b
theorem sameT_no {lv lv' : Nat → List It} {vs vs' : Nat → Int} {k : Nat} (hk : k < 16) (h : unlB lv lv' vs vs' k = true) : sameT lv lv' vs vs' = false := by
  unfold sameT
  refine List.all_eq_false.2 ⟨k, List.mem_range.2 hk, ?_⟩
  rw [h]; decide
theorem sameT_yes {lv lv' : Nat → List It} {vs vs' : Nat → Int} (h : ∀ b, b < 16 → unlB lv lv' vs vs' b = false) : sameT lv lv' vs vs' = true := by
  unfold sameT
  refine List.all_eq_true.2 fun b hb => ?_
  rw [h b (List.mem_range.1 hb)]; rfl
theorem sameT_iff {lv lv' : Nat → List It} {vs vs' : Nat → Int} : sameT lv lv' vs vs' = true ↔ ∀ b, b < 16 → lv b = lv' b ∧ vs b = vs' b := by
  unfold sameT unlB lsEq
  simp only [List.all_eq_true, List.mem_range, Bool.not_eq_true', Bool.or_eq_false_iff, bne_eq_false_iff_eq, decide_eq_true_eq, Bool.not_eq_false', decide_eq_false_iff_not, Decidable.not_not]
  constructor
  · intro h b hb; exact ⟨(h b hb).2, (h b hb).1⟩
  · intro h b hb; exact ⟨(h b hb).2, (h b hb).1⟩
theorem unl_nil {lv lv' : Nat → List It} {vs vs' : Nat → Int} : (decide ((unlL lv lv' vs vs' 16).length = 0)) = sameT lv lv' vs vs' := by
  unfold unlL sameT
  rw [Bool.eq_iff_iff, decide_eq_true_iff, List.length_eq_zero_iff, List.filter_eq_nil_iff, List.all_eq_true]
  constructor
  · intro h b hb; have := h b hb; cases hu : unlB lv lv' vs vs' b <;> simp_all
  · intro h b hb; have := h b hb; cases hu : unlB lv lv' vs vs' b <;> simp_all
set_option maxRecDepth 100000 in
set_option maxHeartbeats 2000000 in
theorem tsameG_any (ca cb : Array Value) (lv lv' : Nat → List It) (vs vs' : Nat → Int) (w : World) (ha : RdT w ca lv vs) (hb : RdT w cb lv' vs') (h100 : ∀ b, b < 16 → (lv b).length ≤ 100) (h101 : ∀ b, b < 16 → (lv' b).length ≤ 100) :
    Calls Tryd.prog 53 #[.agg ca, .agg cb] w fun e w' => e = .returned (.bool (sameT lv lv' vs vs')) ∧ Below w.heap.size w w' := by
  have HA := Lib.hid ha
  have HB := Lib.hid hb
  have H100 := Lib.hid h100
  have H101 := Lib.hid h101
  obtain ⟨q2, q3, -, -⟩ := two_allocs w (.cells ca 26) (.cells cb 26)
  have bel : Below w.heap.size w ((w.alloc (.cells ca 26)).alloc (.cells cb 26)) := ((Below.refl _ w).alloc (Nat.le_refl _) _).alloc (by simp) _
  obtain ⟨R, hR⟩ : ∃ R, R = sameT lv lv' vs vs' := ⟨_, rfl⟩
  rw [← hR]
  have HR := Lib.hid hR
  clear hR
  clear ha hb h100 h101
  go_enter Tryd.func53, Tryd.ntmps53
  go_wp2_with fail
  obtain ⟨W0, hW0⟩ : ∃ W0, W0 = (w.alloc (.cells ca 26)).alloc (.cells cb 26) := ⟨_, rfl⟩
  rw [← hW0] at q2 q3 bel ⊢
  clear hW0
  go_loopw [5] (fun i wr => ∃ k : Nat, k ≤ 16 ∧ i = .int .i64 (k : Int) ∧ Hid (∀ b, b < k → unlB lv lv' vs vs' b = false) ∧ wr.heap[w.heap.size]? = some (.cells ca 26 (0, 0)) ∧ wr.heap[w.heap.size + 1]? = some (.cells cb 26 (0, 0)) ∧ Below w.heap.size w wr) (fun i _ => 20 - (intOf i).toNat)
  case atStart => exact ⟨0, by omega, rfl, Lib.hid (fun b hb => absurd hb (Nat.not_lt_zero b)), q2, q3, bel⟩
  case round =>
    clear q2 q3 bel
    obtain ⟨k, hk, rfl, HN, q2, q3, bel⟩ := hrel
    by_cases hlt : k < 16
    · have hlti : (k : Int) < 16 := by omega
      obtain ⟨u, hu, hru⟩ := HA.out.leaf k hlt
      obtain ⟨u', hu', hru'⟩ := HB.out.leaf k hlt
      have VA := Lib.hid (HA.out.ver k hlt)
      have VB := Lib.hid (HB.out.ver k hlt)
      have LA := Lib.hid hu
      have LB := Lib.hid hu'
      have SM0 := fun W (g : Below wr.heap.size wr W) => refSameG_any u u' (lv k) (lv' k) W (hru.below (chain bel g) (Nat.le_refl _)) (hru'.below (chain bel g) (Nat.le_refl _)) (H100.out k hlt) (H101.out k hlt)
      clear hu hru hu' hru'
      cases hd : (vs k != vs' k) with
      | true =>
        have E := Lib.hid (show R = false by rw [HR.out]; exact sameT_no hlt (by unfold unlB; rw [hd]; rfl))
        clear SM0
        go_wp2_with fail
        refine g_start (by kernel_rfl) ?_
        refine g_take (i := 0) (d := (some 10)) (v := ?_) rfl rfl (by kernel_rfl) (fun _ _ _ h => h) (by rfl) (fun w' hb' => ?_) ?_
        rotate_left
        · (try go_simp); (try with_reducible rfl)
        try simp only [Act.put, List.setIfInBounds_toArray, List.set_cons_zero, List.set_cons_succ]
        refine g_take (i := 1) (d := (some 11)) (v := ?_) rfl rfl (by kernel_rfl) (fun _ _ _ h => h) (by rfl) (fun w' hb' => ?_) ?_
        rotate_left
        · (try go_simp); (try with_reducible rfl)
        try simp only [Act.put, List.setIfInBounds_toArray, List.set_cons_zero, List.set_cons_succ]
        refine g_take (i := 2) (d := (some 12)) (v := ?_) rfl rfl (by kernel_rfl) (fun _ _ _ h => h) (by rfl) (fun w' hb' => ?_) ?_
        rotate_left
        · (try go_simp); (try with_reducible rfl)
        try simp only [Act.put, List.setIfInBounds_toArray, List.set_cons_zero, List.set_cons_succ]
        refine g_take (i := 3) (d := (some 13)) (v := ?_) rfl rfl (by kernel_rfl) (fun _ _ _ h => h) (by rfl) (fun w' hb' => ?_) ?_
        rotate_left
        · have zz := (hb'.cell (p := ⟨w.heap.size, 16 + k, none⟩) (lt_of_block q2)).trans ((block_cell q2 (16 + k)).trans VA.out); have zy := zz; rw [Nat.add_comm 16 k] at zy; (try go_simp); (try with_reducible rfl)
        try simp only [Act.put, List.setIfInBounds_toArray, List.set_cons_zero, List.set_cons_succ]
        refine g_take (i := 4) (d := (some 14)) (v := ?_) rfl rfl (by kernel_rfl) (fun _ _ _ h => h) (by rfl) (fun w' hb' => ?_) ?_
        rotate_left
        · (try go_simp); (try with_reducible rfl)
        try simp only [Act.put, List.setIfInBounds_toArray, List.set_cons_zero, List.set_cons_succ]
        refine g_take (i := 5) (d := (some 15)) (v := ?_) rfl rfl (by kernel_rfl) (fun _ _ _ h => h) (by rfl) (fun w' hb' => ?_) ?_
        rotate_left
        · (try go_simp); (try with_reducible rfl)
        try simp only [Act.put, List.setIfInBounds_toArray, List.set_cons_zero, List.set_cons_succ]
        refine g_take (i := 6) (d := (some 16)) (v := ?_) rfl rfl (by kernel_rfl) (fun _ _ _ h => h) (by rfl) (fun w' hb' => ?_) ?_
        rotate_left
        · (try go_simp); (try with_reducible rfl)
        try simp only [Act.put, List.setIfInBounds_toArray, List.set_cons_zero, List.set_cons_succ]
        refine g_take (i := 7) (d := (some 17)) (v := ?_) rfl rfl (by kernel_rfl) (fun _ _ _ h => h) (by rfl) (fun w' hb' => ?_) ?_
        rotate_left
        · have zz := (hb'.cell (p := ⟨w.heap.size + 1, 16 + k, none⟩) (lt_of_block q3)).trans ((block_cell q3 (16 + k)).trans VB.out); have zy := zz; rw [Nat.add_comm 16 k] at zy; (try go_simp); (try with_reducible rfl)
        try simp only [Act.put, List.setIfInBounds_toArray, List.set_cons_zero, List.set_cons_succ]
        refine g_take (i := 8) (d := (some 18)) (v := ?_) rfl rfl (by kernel_rfl) (fun _ _ _ h => h) (by rfl) (fun w' hb' => ?_) ?_
        rotate_left
        · (try go_simp); (try with_reducible rfl)
        try simp only [Act.put, List.setIfInBounds_toArray, List.set_cons_zero, List.set_cons_succ]
        refine g_take (i := 9) (d := (some 19)) (v := ?_) rfl rfl (by kernel_rfl) (fun _ _ _ h => h) (by rfl) (fun w' hb' => ?_) ?_
        rotate_left
        · (try go_simp); (try with_reducible rfl)
        try simp only [Act.put, List.setIfInBounds_toArray, List.set_cons_zero, List.set_cons_succ]
        refine g_skip (i := 10) (d := (some 20)) rfl rfl (by kernel_rfl) (fun _ _ _ h => h) (by rfl) ?_
        try simp only [Act.put, List.setIfInBounds_toArray, List.set_cons_zero, List.set_cons_succ]
        refine g_skip (i := 11) (d := (some 21)) rfl rfl (by kernel_rfl) (fun _ _ _ h => h) (by rfl) ?_
        try simp only [Act.put, List.setIfInBounds_toArray, List.set_cons_zero, List.set_cons_succ]
        refine g_skip (i := 12) (d := (some 22)) rfl rfl (by kernel_rfl) (fun _ _ _ h => h) (by rfl) ?_
        try simp only [Act.put, List.setIfInBounds_toArray, List.set_cons_zero, List.set_cons_succ]
        refine g_skip (i := 13) (d := (some 23)) rfl rfl (by kernel_rfl) (fun _ _ _ h => h) (by rfl) ?_
        try simp only [Act.put, List.setIfInBounds_toArray, List.set_cons_zero, List.set_cons_succ]
        refine g_skip (i := 14) (d := (some 24)) rfl rfl (by kernel_rfl) (fun _ _ _ h => h) (by rfl) ?_
        try simp only [Act.put, List.setIfInBounds_toArray, List.set_cons_zero, List.set_cons_succ]
        refine g_skip (i := 15) (d := (some 25)) rfl rfl (by kernel_rfl) (fun _ _ _ h => h) (by rfl) ?_
        try simp only [Act.put, List.setIfInBounds_toArray, List.set_cons_zero, List.set_cons_succ]
        refine g_skip (i := 16) (d := (some 26)) rfl rfl (by kernel_rfl) (fun _ _ _ h => h) (by rfl) ?_
        try simp only [Act.put, List.setIfInBounds_toArray, List.set_cons_zero, List.set_cons_succ]
        refine g_skip (i := 17) (d := (some 27)) rfl rfl (by kernel_rfl) (fun _ _ _ h => h) (by rfl) ?_
        try simp only [Act.put, List.setIfInBounds_toArray, List.set_cons_zero, List.set_cons_succ]
        refine g_skip (i := 18) (d := (some 28)) rfl rfl (by kernel_rfl) (fun _ _ _ h => h) (by rfl) ?_
        try simp only [Act.put, List.setIfInBounds_toArray, List.set_cons_zero, List.set_cons_succ]
        refine g_skip (i := 19) (d := (some 29)) rfl rfl (by kernel_rfl) (fun _ _ _ h => h) (by rfl) ?_
        try simp only [Act.put, List.setIfInBounds_toArray, List.set_cons_zero, List.set_cons_succ]
        refine g_take (i := 20) (d := (some 30)) (v := ?_) rfl rfl (by kernel_rfl) (fun _ _ _ h => h) (by rfl) (fun w' hb' => ?_) ?_
        rotate_left
        · (try go_simp); (try with_reducible rfl)
        try simp only [Act.put, List.setIfInBounds_toArray, List.set_cons_zero, List.set_cons_succ]
        refine g_done (by kernel_rfl) ?_
        go_wp2_with fail
        go_ret
        exact ⟨by rw [E.out]; rfl, bel.drew⟩
      | false =>
        cases hq : lsEq (lv k) (lv' k) with
        | false =>
          rw [hq] at SM0
          have SM := Lib.hid SM0
          have E := Lib.hid (show R = false by rw [HR.out]; exact sameT_no hlt (by unfold unlB; rw [hd, hq]; rfl))
          clear SM0
          go_wp2_with fail
          refine g_start (by kernel_rfl) ?_
          refine g_take (i := 0) (d := (some 10)) (v := ?_) rfl rfl (by kernel_rfl) (fun _ _ _ h => h) (by rfl) (fun w' hb' => ?_) ?_
          rotate_left
          · (try go_simp); (try with_reducible rfl)
          try simp only [Act.put, List.setIfInBounds_toArray, List.set_cons_zero, List.set_cons_succ]
          refine g_take (i := 1) (d := (some 11)) (v := ?_) rfl rfl (by kernel_rfl) (fun _ _ _ h => h) (by rfl) (fun w' hb' => ?_) ?_
          rotate_left
          · (try go_simp); (try with_reducible rfl)
          try simp only [Act.put, List.setIfInBounds_toArray, List.set_cons_zero, List.set_cons_succ]
          refine g_take (i := 2) (d := (some 12)) (v := ?_) rfl rfl (by kernel_rfl) (fun _ _ _ h => h) (by rfl) (fun w' hb' => ?_) ?_
          rotate_left
          · (try go_simp); (try with_reducible rfl)
          try simp only [Act.put, List.setIfInBounds_toArray, List.set_cons_zero, List.set_cons_succ]
          refine g_take (i := 3) (d := (some 13)) (v := ?_) rfl rfl (by kernel_rfl) (fun _ _ _ h => h) (by rfl) (fun w' hb' => ?_) ?_
          rotate_left
          · have zz := (hb'.cell (p := ⟨w.heap.size, 16 + k, none⟩) (lt_of_block q2)).trans ((block_cell q2 (16 + k)).trans VA.out); have zy := zz; rw [Nat.add_comm 16 k] at zy; (try go_simp); (try with_reducible rfl)
          try simp only [Act.put, List.setIfInBounds_toArray, List.set_cons_zero, List.set_cons_succ]
          refine g_take (i := 4) (d := (some 14)) (v := ?_) rfl rfl (by kernel_rfl) (fun _ _ _ h => h) (by rfl) (fun w' hb' => ?_) ?_
          rotate_left
          · (try go_simp); (try with_reducible rfl)
          try simp only [Act.put, List.setIfInBounds_toArray, List.set_cons_zero, List.set_cons_succ]
          refine g_take (i := 5) (d := (some 15)) (v := ?_) rfl rfl (by kernel_rfl) (fun _ _ _ h => h) (by rfl) (fun w' hb' => ?_) ?_
          rotate_left
          · (try go_simp); (try with_reducible rfl)
          try simp only [Act.put, List.setIfInBounds_toArray, List.set_cons_zero, List.set_cons_succ]
          refine g_take (i := 6) (d := (some 16)) (v := ?_) rfl rfl (by kernel_rfl) (fun _ _ _ h => h) (by rfl) (fun w' hb' => ?_) ?_
          rotate_left
          · (try go_simp); (try with_reducible rfl)
          try simp only [Act.put, List.setIfInBounds_toArray, List.set_cons_zero, List.set_cons_succ]
          refine g_take (i := 7) (d := (some 17)) (v := ?_) rfl rfl (by kernel_rfl) (fun _ _ _ h => h) (by rfl) (fun w' hb' => ?_) ?_
          rotate_left
          · have zz := (hb'.cell (p := ⟨w.heap.size + 1, 16 + k, none⟩) (lt_of_block q3)).trans ((block_cell q3 (16 + k)).trans VB.out); have zy := zz; rw [Nat.add_comm 16 k] at zy; (try go_simp); (try with_reducible rfl)
          try simp only [Act.put, List.setIfInBounds_toArray, List.set_cons_zero, List.set_cons_succ]
          refine g_take (i := 8) (d := (some 18)) (v := ?_) rfl rfl (by kernel_rfl) (fun _ _ _ h => h) (by rfl) (fun w' hb' => ?_) ?_
          rotate_left
          · (try go_simp); (try with_reducible rfl)
          try simp only [Act.put, List.setIfInBounds_toArray, List.set_cons_zero, List.set_cons_succ]
          refine g_take (i := 9) (d := (some 19)) (v := ?_) rfl rfl (by kernel_rfl) (fun _ _ _ h => h) (by rfl) (fun w' hb' => ?_) ?_
          rotate_left
          · (try go_simp); (try with_reducible rfl)
          try simp only [Act.put, List.setIfInBounds_toArray, List.set_cons_zero, List.set_cons_succ]
          refine g_take (i := 10) (d := (some 20)) (v := ?_) rfl rfl (by kernel_rfl) (fun _ _ _ h => h) (by rfl) (fun w' hb' => ?_) ?_
          rotate_left
          · (try go_simp); (try with_reducible rfl)
          try simp only [Act.put, List.setIfInBounds_toArray, List.set_cons_zero, List.set_cons_succ]
          refine g_take (i := 11) (d := (some 21)) (v := ?_) rfl rfl (by kernel_rfl) (fun _ _ _ h => h) (by rfl) (fun w' hb' => ?_) ?_
          rotate_left
          · (try go_simp); (try with_reducible rfl)
          try simp only [Act.put, List.setIfInBounds_toArray, List.set_cons_zero, List.set_cons_succ]
          refine g_take (i := 12) (d := (some 22)) (v := ?_) rfl rfl (by kernel_rfl) (fun _ _ _ h => h) (by rfl) (fun w' hb' => ?_) ?_
          rotate_left
          · (try go_simp); (try with_reducible rfl)
          try simp only [Act.put, List.setIfInBounds_toArray, List.set_cons_zero, List.set_cons_succ]
          refine g_take (i := 13) (d := (some 23)) (v := ?_) rfl rfl (by kernel_rfl) (fun _ _ _ h => h) (by rfl) (fun w' hb' => ?_) ?_
          rotate_left
          · have zz := (hb'.cell (p := ⟨w.heap.size, k, none⟩) (lt_of_block q2)).trans ((block_cell q2 k).trans LA.out); (try go_simp); (try with_reducible rfl)
          try simp only [Act.put, List.setIfInBounds_toArray, List.set_cons_zero, List.set_cons_succ]
          refine g_take (i := 14) (d := (some 24)) (v := ?_) rfl rfl (by kernel_rfl) (fun _ _ _ h => h) (by rfl) (fun w' hb' => ?_) ?_
          rotate_left
          · (try go_simp); (try with_reducible rfl)
          try simp only [Act.put, List.setIfInBounds_toArray, List.set_cons_zero, List.set_cons_succ]
          refine g_take (i := 15) (d := (some 25)) (v := ?_) rfl rfl (by kernel_rfl) (fun _ _ _ h => h) (by rfl) (fun w' hb' => ?_) ?_
          rotate_left
          · (try go_simp); (try with_reducible rfl)
          try simp only [Act.put, List.setIfInBounds_toArray, List.set_cons_zero, List.set_cons_succ]
          refine g_take (i := 16) (d := (some 26)) (v := ?_) rfl rfl (by kernel_rfl) (fun _ _ _ h => h) (by rfl) (fun w' hb' => ?_) ?_
          rotate_left
          · (try go_simp); (try with_reducible rfl)
          try simp only [Act.put, List.setIfInBounds_toArray, List.set_cons_zero, List.set_cons_succ]
          refine g_take (i := 17) (d := (some 27)) (v := ?_) rfl rfl (by kernel_rfl) (fun _ _ _ h => h) (by rfl) (fun w' hb' => ?_) ?_
          rotate_left
          · have zz := (hb'.cell (p := ⟨w.heap.size + 1, k, none⟩) (lt_of_block q3)).trans ((block_cell q3 k).trans LB.out); (try go_simp); (try with_reducible rfl)
          try simp only [Act.put, List.setIfInBounds_toArray, List.set_cons_zero, List.set_cons_succ]
          refine g_run (i := 18) rfl (by kernel_rfl) (by rfl) (fun K hK => ?_)
          go_simp; refine (SM.out _ (Below.drew (Below.refl _ _))).mono ?_; rintro e w2 ⟨rfl, n2, hw2⟩; have g : Below wr.drew.heap.size wr.drew w2 := (by rw [hw2]; exact below_drewN (Below.refl _ _)); have b2 := chain bel (Below.trans (Below.drew (Below.refl wr.heap.size wr)) g); have q2 := (Below.trans (Below.drew (Below.refl wr.heap.size wr)) g).block _ (lt_of_block q2) |>.trans q2; have q3 := (Below.trans (Below.drew (Below.refl wr.heap.size wr)) g).block _ (lt_of_block q3) |>.trans q3; refine hK _ _ ⟨g, ?_⟩; clear hK K g hw2
          try simp only [Act.put, List.setIfInBounds_toArray, List.set_cons_zero, List.set_cons_succ]
          refine g_take (i := 19) (d := (some 29)) (v := ?_) rfl rfl (by kernel_rfl) (fun _ _ _ h => h) (by rfl) (fun w' hb' => ?_) ?_
          rotate_left
          · (try go_simp); (try with_reducible rfl)
          try simp only [Act.put, List.setIfInBounds_toArray, List.set_cons_zero, List.set_cons_succ]
          refine g_take (i := 20) (d := (some 30)) (v := ?_) rfl rfl (by kernel_rfl) (fun _ _ _ h => h) (by rfl) (fun w' hb' => ?_) ?_
          rotate_left
          · (try go_simp); (try with_reducible rfl)
          try simp only [Act.put, List.setIfInBounds_toArray, List.set_cons_zero, List.set_cons_succ]
          refine g_done (by kernel_rfl) ?_
          go_wp2_with fail
          go_ret
          exact ⟨by rw [E.out]; rfl, b2⟩
        | true =>
          rw [hq] at SM0
          have SM := Lib.hid SM0
          have HN2 := Lib.hid (show ∀ b, b < k + 1 → unlB lv lv' vs vs' b = false from fun b hb => by
            rcases Nat.lt_or_eq_of_le (Nat.le_of_lt_succ hb) with h | h
            · exact HN.out b h
            · subst h; unfold unlB; rw [hd, hq]; rfl)
          clear SM0
          go_wp2_with fail
          refine g_start (by kernel_rfl) ?_
          refine g_take (i := 0) (d := (some 10)) (v := ?_) rfl rfl (by kernel_rfl) (fun _ _ _ h => h) (by rfl) (fun w' hb' => ?_) ?_
          rotate_left
          · (try go_simp); (try with_reducible rfl)
          try simp only [Act.put, List.setIfInBounds_toArray, List.set_cons_zero, List.set_cons_succ]
          refine g_take (i := 1) (d := (some 11)) (v := ?_) rfl rfl (by kernel_rfl) (fun _ _ _ h => h) (by rfl) (fun w' hb' => ?_) ?_
          rotate_left
          · (try go_simp); (try with_reducible rfl)
          try simp only [Act.put, List.setIfInBounds_toArray, List.set_cons_zero, List.set_cons_succ]
          refine g_take (i := 2) (d := (some 12)) (v := ?_) rfl rfl (by kernel_rfl) (fun _ _ _ h => h) (by rfl) (fun w' hb' => ?_) ?_
          rotate_left
          · (try go_simp); (try with_reducible rfl)
          try simp only [Act.put, List.setIfInBounds_toArray, List.set_cons_zero, List.set_cons_succ]
          refine g_take (i := 3) (d := (some 13)) (v := ?_) rfl rfl (by kernel_rfl) (fun _ _ _ h => h) (by rfl) (fun w' hb' => ?_) ?_
          rotate_left
          · have zz := (hb'.cell (p := ⟨w.heap.size, 16 + k, none⟩) (lt_of_block q2)).trans ((block_cell q2 (16 + k)).trans VA.out); have zy := zz; rw [Nat.add_comm 16 k] at zy; (try go_simp); (try with_reducible rfl)
          try simp only [Act.put, List.setIfInBounds_toArray, List.set_cons_zero, List.set_cons_succ]
          refine g_take (i := 4) (d := (some 14)) (v := ?_) rfl rfl (by kernel_rfl) (fun _ _ _ h => h) (by rfl) (fun w' hb' => ?_) ?_
          rotate_left
          · (try go_simp); (try with_reducible rfl)
          try simp only [Act.put, List.setIfInBounds_toArray, List.set_cons_zero, List.set_cons_succ]
          refine g_take (i := 5) (d := (some 15)) (v := ?_) rfl rfl (by kernel_rfl) (fun _ _ _ h => h) (by rfl) (fun w' hb' => ?_) ?_
          rotate_left
          · (try go_simp); (try with_reducible rfl)
          try simp only [Act.put, List.setIfInBounds_toArray, List.set_cons_zero, List.set_cons_succ]
          refine g_take (i := 6) (d := (some 16)) (v := ?_) rfl rfl (by kernel_rfl) (fun _ _ _ h => h) (by rfl) (fun w' hb' => ?_) ?_
          rotate_left
          · (try go_simp); (try with_reducible rfl)
          try simp only [Act.put, List.setIfInBounds_toArray, List.set_cons_zero, List.set_cons_succ]
          refine g_take (i := 7) (d := (some 17)) (v := ?_) rfl rfl (by kernel_rfl) (fun _ _ _ h => h) (by rfl) (fun w' hb' => ?_) ?_
          rotate_left
          · have zz := (hb'.cell (p := ⟨w.heap.size + 1, 16 + k, none⟩) (lt_of_block q3)).trans ((block_cell q3 (16 + k)).trans VB.out); have zy := zz; rw [Nat.add_comm 16 k] at zy; (try go_simp); (try with_reducible rfl)
          try simp only [Act.put, List.setIfInBounds_toArray, List.set_cons_zero, List.set_cons_succ]
          refine g_take (i := 8) (d := (some 18)) (v := ?_) rfl rfl (by kernel_rfl) (fun _ _ _ h => h) (by rfl) (fun w' hb' => ?_) ?_
          rotate_left
          · (try go_simp); (try with_reducible rfl)
          try simp only [Act.put, List.setIfInBounds_toArray, List.set_cons_zero, List.set_cons_succ]
          refine g_take (i := 9) (d := (some 19)) (v := ?_) rfl rfl (by kernel_rfl) (fun _ _ _ h => h) (by rfl) (fun w' hb' => ?_) ?_
          rotate_left
          · (try go_simp); (try with_reducible rfl)
          try simp only [Act.put, List.setIfInBounds_toArray, List.set_cons_zero, List.set_cons_succ]
          refine g_take (i := 10) (d := (some 20)) (v := ?_) rfl rfl (by kernel_rfl) (fun _ _ _ h => h) (by rfl) (fun w' hb' => ?_) ?_
          rotate_left
          · (try go_simp); (try with_reducible rfl)
          try simp only [Act.put, List.setIfInBounds_toArray, List.set_cons_zero, List.set_cons_succ]
          refine g_take (i := 11) (d := (some 21)) (v := ?_) rfl rfl (by kernel_rfl) (fun _ _ _ h => h) (by rfl) (fun w' hb' => ?_) ?_
          rotate_left
          · (try go_simp); (try with_reducible rfl)
          try simp only [Act.put, List.setIfInBounds_toArray, List.set_cons_zero, List.set_cons_succ]
          refine g_take (i := 12) (d := (some 22)) (v := ?_) rfl rfl (by kernel_rfl) (fun _ _ _ h => h) (by rfl) (fun w' hb' => ?_) ?_
          rotate_left
          · (try go_simp); (try with_reducible rfl)
          try simp only [Act.put, List.setIfInBounds_toArray, List.set_cons_zero, List.set_cons_succ]
          refine g_take (i := 13) (d := (some 23)) (v := ?_) rfl rfl (by kernel_rfl) (fun _ _ _ h => h) (by rfl) (fun w' hb' => ?_) ?_
          rotate_left
          · have zz := (hb'.cell (p := ⟨w.heap.size, k, none⟩) (lt_of_block q2)).trans ((block_cell q2 k).trans LA.out); (try go_simp); (try with_reducible rfl)
          try simp only [Act.put, List.setIfInBounds_toArray, List.set_cons_zero, List.set_cons_succ]
          refine g_take (i := 14) (d := (some 24)) (v := ?_) rfl rfl (by kernel_rfl) (fun _ _ _ h => h) (by rfl) (fun w' hb' => ?_) ?_
          rotate_left
          · (try go_simp); (try with_reducible rfl)
          try simp only [Act.put, List.setIfInBounds_toArray, List.set_cons_zero, List.set_cons_succ]
          refine g_take (i := 15) (d := (some 25)) (v := ?_) rfl rfl (by kernel_rfl) (fun _ _ _ h => h) (by rfl) (fun w' hb' => ?_) ?_
          rotate_left
          · (try go_simp); (try with_reducible rfl)
          try simp only [Act.put, List.setIfInBounds_toArray, List.set_cons_zero, List.set_cons_succ]
          refine g_take (i := 16) (d := (some 26)) (v := ?_) rfl rfl (by kernel_rfl) (fun _ _ _ h => h) (by rfl) (fun w' hb' => ?_) ?_
          rotate_left
          · (try go_simp); (try with_reducible rfl)
          try simp only [Act.put, List.setIfInBounds_toArray, List.set_cons_zero, List.set_cons_succ]
          refine g_take (i := 17) (d := (some 27)) (v := ?_) rfl rfl (by kernel_rfl) (fun _ _ _ h => h) (by rfl) (fun w' hb' => ?_) ?_
          rotate_left
          · have zz := (hb'.cell (p := ⟨w.heap.size + 1, k, none⟩) (lt_of_block q3)).trans ((block_cell q3 k).trans LB.out); (try go_simp); (try with_reducible rfl)
          try simp only [Act.put, List.setIfInBounds_toArray, List.set_cons_zero, List.set_cons_succ]
          refine g_run (i := 18) rfl (by kernel_rfl) (by rfl) (fun K hK => ?_)
          go_simp; refine (SM.out _ (Below.drew (Below.refl _ _))).mono ?_; rintro e w2 ⟨rfl, n2, hw2⟩; have g : Below wr.drew.heap.size wr.drew w2 := (by rw [hw2]; exact below_drewN (Below.refl _ _)); have b2 := chain bel (Below.trans (Below.drew (Below.refl wr.heap.size wr)) g); have q2 := (Below.trans (Below.drew (Below.refl wr.heap.size wr)) g).block _ (lt_of_block q2) |>.trans q2; have q3 := (Below.trans (Below.drew (Below.refl wr.heap.size wr)) g).block _ (lt_of_block q3) |>.trans q3; refine hK _ _ ⟨g, ?_⟩; clear hK K g hw2
          try simp only [Act.put, List.setIfInBounds_toArray, List.set_cons_zero, List.set_cons_succ]
          refine g_take (i := 19) (d := (some 29)) (v := ?_) rfl rfl (by kernel_rfl) (fun _ _ _ h => h) (by rfl) (fun w' hb' => ?_) ?_
          rotate_left
          · (try go_simp); (try with_reducible rfl)
          try simp only [Act.put, List.setIfInBounds_toArray, List.set_cons_zero, List.set_cons_succ]
          refine g_take (i := 20) (d := (some 30)) (v := ?_) rfl rfl (by kernel_rfl) (fun _ _ _ h => h) (by rfl) (fun w' hb' => ?_) ?_
          rotate_left
          · (try go_simp); (try with_reducible rfl)
          try simp only [Act.put, List.setIfInBounds_toArray, List.set_cons_zero, List.set_cons_succ]
          refine g_done (by kernel_rfl) ?_
          go_wp2_with fail
          exact ⟨⟨k + 1, by omega, by push_cast; rfl, HN2, q2, q3, b2⟩, by simp [intOf]; omega⟩
    · obtain rfl : k = 16 := by omega
      have E := Lib.hid (show R = true by rw [HR.out]; exact sameT_yes HN.out)
      go_wp2_with fail
      go_ret
      exact ⟨by rw [E.out]; rfl, bel⟩
noncomputable def tSame (lv lv' : Nat → List It) (vs vs' : Nat → Int) : Bool := mayTs lv vs 16 && mayTs lv' vs' 16 && sameT lv lv' vs vs'
set_option maxRecDepth 100000 in
set_option maxHeartbeats 1000000 in
theorem unlike_no (ca cb : Array Value) (lv lv' : Nat → List It) (vs vs' : Nat → Int) (w : World) (tab : TabAt w) (ha : RdT w ca lv vs) (hb : RdT w cb lv' vs') (hsa : SzT lv) (hsb : SzT lv') (hm : (mayTs lv vs 16 && mayTs lv' vs' 16) = false) :
    Calls Tryd.prog 86 #[.agg ca, .agg cb] w fun e w' => e = .returned (.tuple #[.slice none 0 0, .int .i64 1]) ∧ Below w.heap.size w w' := by
  have hs := infoTc ha.size
  have hs2 := infoTc hb.size
  have HA := Lib.hid ha
  have HB := Lib.hid hb
  have TA0 := fun W t h => tmay_any ca lv vs W t h hsa
  have TB0 := fun W t h => tmay_any cb lv' vs' W t h hsb
  obtain ⟨q2, q3, -, -⟩ := two_allocs w (.cells ca 26) (.cells cb 26)
  have bel : Below w.heap.size w ((w.alloc (.cells ca 26)).alloc (.cells cb 26)) := ((Below.refl _ w).alloc (Nat.le_refl _) _).alloc (by simp) _
  have T0 := tab.below bel
  clear ha hb hsa hsb tab
  cases ma : mayTs lv vs 16 with
  | false =>
    rw [ma] at TA0
    have TA := Lib.hid TA0
    clear TA0 TB0 ma hm
    go_enter Tryd.func86, Tryd.ntmps86
    go_wp2_with ((with_reducible refine wpList_load_row (o := ⟨some 8, _, _, _, _, _⟩) rfl 26 (.tmp 2) rfl _ rfl _ ca (0, 0) _ q2 Tryd.underlying26 rfl hs ?_))
    refine (TA.out _ T0 (HA.out.below bel (Nat.le_refl _))).mono ?_
    rintro e w1 ⟨rfl, g⟩
    replace bel := chain bel g
    clear g T0
    go_wp2_with fail
    go_ret2
    exact ⟨rfl, bel⟩
  | true =>
    rw [ma] at hm
    have mb : mayTs lv' vs' 16 = false := by simpa using hm
    rw [ma] at TA0
    rw [mb] at TB0
    have TA := Lib.hid TA0
    have TB := Lib.hid TB0
    clear TA0 TB0 ma hm mb
    go_enter Tryd.func86, Tryd.ntmps86
    go_wp2_with ((with_reducible refine wpList_load_row (o := ⟨some 8, _, _, _, _, _⟩) rfl 26 (.tmp 2) rfl _ rfl _ ca (0, 0) _ q2 Tryd.underlying26 rfl hs ?_))
    refine (TA.out _ T0 (HA.out.below bel (Nat.le_refl _))).mono ?_
    rintro e w1 ⟨rfl, g⟩
    replace T0 := T0.below g
    replace q3 := (g.block _ (lt_of_block q3)).trans q3
    replace bel := chain bel g
    clear g
    go_wp2_with ((with_reducible refine wpList_load_row_g (o := ⟨some 12, _, _, _, _, _⟩) ?_ 26 (.tmp 3) rfl _ rfl _ cb (0, 0) _ q3 Tryd.underlying26 rfl hs2 ?_); rfl)
    refine (TB.out _ T0 (HB.out.below bel (Nat.le_refl _))).mono ?_
    rintro e w2 ⟨rfl, g⟩
    replace bel := chain bel g
    clear g T0
    go_wp2_with fail
    go_ret2
    exact ⟨rfl, bel⟩
set_option maxRecDepth 100000 in
set_option maxHeartbeats 1000000 in
theorem psameT_any (ca cb : Array Value) (lv lv' : Nat → List It) (vs vs' : Nat → Int) (w : World) (tab : TabAt w) (ha : RdT w ca lv vs) (hb : RdT w cb lv' vs') (hsa : SzT lv) (hsb : SzT lv') :
    Calls Tryd.prog 60 #[.agg ca, .agg cb] w fun e w' => e = .returned (.bool (tSame lv lv' vs vs')) ∧ Below w.heap.size w w' := by
  have hs := infoTc ha.size
  have hs2 := infoTc hb.size
  obtain ⟨q2, q3, -, -⟩ := two_allocs w (.cells ca 26) (.cells cb 26)
  have bel : Below w.heap.size w ((w.alloc (.cells ca 26)).alloc (.cells cb 26)) := ((Below.refl _ w).alloc (Nat.le_refl _) _).alloc (by simp) _
  obtain ⟨R, hR⟩ : ∃ R, R = tSame lv lv' vs vs' := ⟨_, rfl⟩
  rw [← hR]
  unfold tSame at hR
  cases hm : (mayTs lv vs 16 && mayTs lv' vs' 16) with
  | false =>
    have UN := Lib.hid (unlike_no ca cb lv lv' vs vs' _ (tab.below bel) (ha.below bel (Nat.le_refl _)) (hb.below bel (Nat.le_refl _)) hsa hsb hm)
    rw [hm] at hR
    have HR := Lib.hid hR
    clear hR hm ha hb hsa hsb tab
    go_enter Tryd.func60, Tryd.ntmps60
    go_wp2_with (first | ((with_reducible refine wpList_load_row (o := ⟨some 8, _, _, _, _, _⟩) rfl 26 (.tmp 2) rfl _ rfl _ ca (0, 0) _ q2 Tryd.underlying26 rfl hs ?_)) | ((with_reducible refine wpList_load_row (o := ⟨some 9, _, _, _, _, _⟩) rfl 26 (.tmp 3) rfl _ rfl _ cb (0, 0) _ q3 Tryd.underlying26 rfl hs2 ?_)))
    refine UN.out.mono ?_
    rintro e w1 ⟨rfl, g⟩
    replace bel := chain bel g
    clear g
    go_wp2_with fail
    go_ret
    exact ⟨by rw [HR.out]; rfl, bel⟩
  | true =>
    obtain ⟨ma, mb⟩ := Bool.and_eq_true_iff.1 hm
    have UN := Lib.hid (unlike_any ca cb lv lv' vs vs' _ (tab.below bel) (ha.below bel (Nat.le_refl _)) (hb.below bel (Nat.le_refl _)) hsa hsb ma mb)
    rw [hm] at hR
    have HR := Lib.hid hR
    clear hR hm ha hb hsa hsb tab ma mb
    go_enter Tryd.func60, Tryd.ntmps60
    go_wp2_with (first | ((with_reducible refine wpList_load_row (o := ⟨some 8, _, _, _, _, _⟩) rfl 26 (.tmp 2) rfl _ rfl _ ca (0, 0) _ q2 Tryd.underlying26 rfl hs ?_)) | ((with_reducible refine wpList_load_row (o := ⟨some 9, _, _, _, _, _⟩) rfl 26 (.tmp 3) rfl _ rfl _ cb (0, 0) _ q3 Tryd.underlying26 rfl hs2 ?_)))
    refine UN.out.mono ?_
    rintro e w1 ⟨v, rfl, own, g⟩
    obtain ⟨a1, n1, c1, rfl⟩ := own_slice own
    have hn := own_count own
    have HB := Lib.hid (chain bel g)
    have E := Lib.hid (show R = decide (n1 = 0) by rw [HR.out, ← unl_nil, ← hn]; rfl)
    clear g own bel hn
    by_cases h0 : n1 = 0
    · have t0 : ((n1 : Int) == 0) = true := by subst h0; rfl
      have E2 := Lib.hid (show R = true by rw [E.out]; exact decide_eq_true h0)
      clear h0
      go_wp2_with fail
      go_ret
      exact ⟨by rw [E2.out]; rfl, HB.out⟩
    · have t0 : ((n1 : Int) == 0) = false := by rw [beq_eq_false_iff_ne]; omega
      have E2 := Lib.hid (show R = false by rw [E.out]; exact decide_eq_false h0)
      clear h0
      go_wp2_with fail
      go_ret
      exact ⟨by rw [E2.out]; rfl, HB.out⟩
end Go.Proofs.YtbdfcgffkonbiaaDoor
