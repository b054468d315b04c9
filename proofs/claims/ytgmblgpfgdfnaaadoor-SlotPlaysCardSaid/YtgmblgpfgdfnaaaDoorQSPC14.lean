/- Slots: who agrees; what is prepared, committed, by the program. Written by wip/tools/gen29e.py. -/
import Derived.Test.YtgmblgpfgdfnaaaDoorQSPC13
namespace Go.Proofs.YtgmblgpfgdfnaaaDoor
open Go Go.RowKit
set_option linter.unusedVariables false
set_option linter.unusedSimpArgs false
set_option maxRecDepth 100000
set_option maxHeartbeats 1000000 in
theorem agreeing_any (s : Sl) (vP vC v : Value) (l : List Vt) (w : World) (h : RdT w v l) : Calls Tryd.prog 40 #[sV s vP vC, v] w fun e w' => e = .returned (.int .u64 ((agrN s.vw s.tm l : Nat) : Int)) ∧ Below w.heap.size w w' := by
  obtain ⟨ao, cap, rfl, hc, hm, hr⟩ := RdK.open h
  have hr : RdT w (.slice ao l.length cap) l := hr
  obtain ⟨has, vw, tm, body, ps, cs⟩ := s
  unfold sV
  simp only
  obtain ⟨S, hS⟩ : ∃ S, S = str body := ⟨_, rfl⟩
  rw [← hS]
  obtain ⟨R, hR⟩ : ∃ R, R = agrN vw tm l := ⟨_, rfl⟩
  rw [← hR]
  have HR := Lib.hid hR
  obtain ⟨W0, hW0⟩ : ∃ W0, W0 = w.alloc (.cells #[.bool has, .int .i64 vw, .int .i64 tm, .string S, vP, vC] 24) := ⟨_, rfl⟩
  have q0 : W0.heap[w.heap.size]? = some (.cells #[.bool has, .int .i64 vw, .int .i64 tm, .string S, vP, vC] 24 (0, 0)) := by rw [hW0]; exact heap_alloc_new _ _
  have B0 : Below w.heap.size w W0 := by rw [hW0]; exact (Below.refl _ _).alloc (Nat.le_refl _) _
  have HRD := Lib.hid (hr.below B0 (Nat.le_refl _))
  clear h hr hS hR
  go_enter Tryd.func40, Tryd.ntmps40
  go_wp2_with fail
  rw [← hW0]
  clear hW0
  go_loopw [5, 10] (fun o i wr => ∃ k acc : Nat, k ≤ l.length ∧ i = .int .i64 (k : Int) ∧ o = .int .u64 (acc : Int) ∧ Hid (acc = agrN vw tm (l.take k)) ∧ Below W0.heap.size W0 wr) (fun _ i _ => l.length - (intOf i).toNat)
  case atStart => exact ⟨0, 0, Nat.zero_le _, rfl, rfl, Lib.hid rfl, Below.refl _ _⟩
  case round =>
    obtain ⟨k, acc, hk, rfl, rfl, HA, bel⟩ := hrel
    by_cases hlt : k < l.length
    · obtain ⟨pb, po, rfl, hpb, C0, C1, C2⟩ := rdt_cells HRD.out k hlt
      have c0 := (bel.cell (p := ⟨pb, po + k * 3, none⟩) hpb).trans C0
      have c1 := (bel.cell (p := ⟨pb, po + k * 3 + 1, none⟩) hpb).trans C1
      have c2 := (bel.cell (p := ⟨pb, po + k * 3 + 2, none⟩) hpb).trans C2
      have q1 := (bel.block _ (lt_of_block q0)).trans q0
      obtain ⟨d0, d1, d2, d3, d4, d5, df⟩ := block_cells6 q1
      have hb1 := lt_of_block q1
      have UP := Lib.hid (agrN_up (vw := vw) (tm := tm) hlt)
      have hac : acc < 18446744073709551616 := by rw [HA.out]; exact agrN_lt _ _ _
      obtain ⟨x, hx⟩ : ∃ x, x = l[k] := ⟨_, rfl⟩
      rw [← hx] at c0 c1 c2 UP
      rw [← HA.out] at UP
      clear C0 C1 C2 hx q1
      obtain ⟨a, b, c⟩ := x
      simp only at c0 c1 c2
      have WI := Lib.hid (with_any acc hac a)
      clear hac
      by_cases e1 : b = vw
      · have f1 : (b == vw) = true := by simpa using e1
        by_cases e2 : c = tm
        · have f2 : (c == tm) = true := by simpa using e2
          have HN := Lib.hid (show (acc ||| bitZ a) = agrN vw tm (l.take (k + 1)) by rw [UP.out, if_pos (by unfold mat; simp [e1, e2])])
          clear e1 e2
          go_wp2_with ((with_reducible refine (WI.out _).mono ?_); rintro e w1 ⟨rfl, rfl⟩)
          exact ⟨⟨k + 1, _, by omega, by push_cast; rfl, rfl, HN, bel.alloc bel.size _⟩, by simp [intOf]; omega⟩
        · have f2 : (c == tm) = false := by simpa using e2
          have HN := Lib.hid (show acc = agrN vw tm (l.take (k + 1)) by rw [UP.out, if_neg (by unfold mat; simp [e1, e2])])
          clear e1 e2
          go_wp2_with fail
          exact ⟨⟨k + 1, _, by omega, by push_cast; rfl, rfl, HN, bel.alloc bel.size _⟩, by simp [intOf]; omega⟩
      · have f1 : (b == vw) = false := by simpa using e1
        have HN := Lib.hid (show acc = agrN vw tm (l.take (k + 1)) by rw [UP.out, if_neg (by unfold mat; simp [e1])])
        clear e1
        go_wp2_with fail
        exact ⟨⟨k + 1, _, by omega, by push_cast; rfl, rfl, HN, bel.alloc bel.size _⟩, by simp [intOf]; omega⟩
    · obtain rfl : k = l.length := by omega
      have E := Lib.hid (show R = acc by rw [HR.out, HA.out, List.take_length])
      go_wp2_with fail
      go_ret
      exact ⟨by rw [E.out]; rfl, chain B0 bel⟩
def prN (s : Sl) (n : Int) : Nat := (agrN s.vw s.tm s.ps &&& allZ n) &&& (18446744073709551615 - bitZ (primZ s.vw n))
theorem prN_lt (s : Sl) (n : Int) : prN s n < 18446744073709551616 := by
  unfold prN
  exact Nat.lt_of_le_of_lt Nat.and_le_left (Nat.lt_of_le_of_lt Nat.and_le_left (agrN_lt _ _ _))
set_option maxHeartbeats 1000000 in
theorem preparers_any (s : Sl) (vP vC : Value) (n : Int) (w : World) (h : RdS w s vP vC) (hn : n ≤ 9223372036854775807) : Calls Tryd.prog 37 #[sV s vP vC, .int .i64 n] w fun e w' => e = .returned (.int .u64 ((prN s n : Nat) : Int)) ∧ Below w.heap.size w w' := by
  have AG0 := fun w' (g : Below w.heap.size w w') => agreeing_any s vP vC vP s.ps w' (h.p.below g (Nat.le_refl _))
  obtain ⟨has, vw, tm, body, ps, cs⟩ := s
  unfold prN
  unfold sV at AG0 ⊢
  simp only at AG0 ⊢
  obtain ⟨S, hS⟩ : ∃ S, S = str body := ⟨_, rfl⟩
  rw [← hS] at AG0 ⊢
  have hlt := agrN_lt vw tm ps
  obtain ⟨A, hA⟩ : ∃ A, A = agrN vw tm ps := ⟨_, rfl⟩
  rw [← hA] at AG0 hlt ⊢
  have HE := Lib.hid (u64_and_nat A (allZ n) hlt (allZ_lt n))
  have AL := Lib.hid (fun w => all_any n w)
  have PR := Lib.hid (fun w => primary_any vw n hn w)
  have WO := Lib.hid (fun w => without_any (A &&& allZ n) (Nat.lt_of_le_of_lt Nat.and_le_left hlt) (primZ vw n) w)
  have AG := Lib.hid AG0
  obtain ⟨z, hz⟩ : ∃ z, z = allZ n := ⟨_, rfl⟩
  obtain ⟨p, hp⟩ : ∃ p, p = primZ vw n := ⟨_, rfl⟩
  rw [← hz] at HE AL WO ⊢
  rw [← hp] at PR WO ⊢
  have q0 := heap_alloc_new w (.cells #[.bool has, .int .i64 vw, .int .i64 tm, .string S, vP, vC] 24)
  have BL := ((Below.refl w.heap.size w).alloc (Nat.le_refl _) (.cells #[.bool has, .int .i64 vw, .int .i64 tm, .string S, vP, vC] 24)).drew
  clear h AG0 hS hA hlt hn hz hp
  go_enter Tryd.func37, Tryd.ntmps37
  go_wp2_with fail
  have q0 : ((w.alloc (.cells #[.bool has, .int .i64 vw, .int .i64 tm, .string S, vP, vC] 24)).drew).heap[w.heap.size]? = some (.cells #[.bool has, .int .i64 vw, .int .i64 tm, .string S, vP, vC] 24 (0, 0)) := q0
  refine g_start (by kernel_rfl) ?_
  refine g_take (i := 0) (d := (some 5)) (v := ?_) rfl rfl (by kernel_rfl) (fun _ _ _ h => h) (by rfl) (fun w' hb' => ?_) ?_
  rotate_left
  · obtain ⟨d0, d1, d2, d3, d4, d5, df⟩ := block_cells6 ((hb'.block _ (lt_of_block q0)).trans q0); (try go_simp); (try with_reducible rfl)
  try simp only [Act.put, List.setIfInBounds_toArray, List.set_cons_zero, List.set_cons_succ]
  refine g_take (i := 1) (d := (some 6)) (v := ?_) rfl rfl (by kernel_rfl) (fun _ _ _ h => h) (by rfl) (fun w' hb' => ?_) ?_
  rotate_left
  · (try go_simp); (try with_reducible rfl)
  try simp only [Act.put, List.setIfInBounds_toArray, List.set_cons_zero, List.set_cons_succ]
  refine g_take (i := 2) (d := (some 7)) (v := ?_) rfl rfl (by kernel_rfl) (fun _ _ _ h => h) (by rfl) (fun w' hb' => ?_) ?_
  rotate_left
  · obtain ⟨d0, d1, d2, d3, d4, d5, df⟩ := block_cells6 ((hb'.block _ (lt_of_block q0)).trans q0); (try go_simp); (try with_reducible rfl)
  try simp only [Act.put, List.setIfInBounds_toArray, List.set_cons_zero, List.set_cons_succ]
  refine g_take (i := 4) (d := (some 9)) (v := ?_) rfl rfl (by kernel_rfl) (fun _ _ _ h => h) (by rfl) (fun w' hb' => ?_) ?_
  rotate_left
  · (try go_simp); (try with_reducible rfl)
  try simp only [Act.put, List.setIfInBounds_toArray, List.set_cons_zero, List.set_cons_succ]
  refine g_take (i := 7) (d := (some 12)) (v := ?_) rfl rfl (by kernel_rfl) (fun _ _ _ h => h) (by rfl) (fun w' hb' => ?_) ?_
  rotate_left
  · (try go_simp); (try with_reducible rfl)
  try simp only [Act.put, List.setIfInBounds_toArray, List.set_cons_zero, List.set_cons_succ]
  refine g_take (i := 8) (d := (some 13)) (v := ?_) rfl rfl (by kernel_rfl) (fun _ _ _ h => h) (by rfl) (fun w' hb' => ?_) ?_
  rotate_left
  · obtain ⟨d0, d1, d2, d3, d4, d5, df⟩ := block_cells6 ((hb'.block _ (lt_of_block q0)).trans q0); (try go_simp); (try with_reducible rfl)
  try simp only [Act.put, List.setIfInBounds_toArray, List.set_cons_zero, List.set_cons_succ]
  refine g_take (i := 9) (d := (some 14)) (v := ?_) rfl rfl (by kernel_rfl) (fun _ _ _ h => h) (by rfl) (fun w' hb' => ?_) ?_
  rotate_left
  · (try go_simp); (try with_reducible rfl)
  try simp only [Act.put, List.setIfInBounds_toArray, List.set_cons_zero, List.set_cons_succ]
  refine g_run (i := 3) rfl (by kernel_rfl) (by rfl) (fun K hK => ?_)
  go_simp; refine (AG.out _ BL).mono ?_; rintro e w2 ⟨rfl, g⟩; have q2 := (g.block _ (lt_of_block q0)).trans q0; have BL2 := chain BL g; refine hK _ _ ⟨g, ?_⟩; clear hK K g
  try simp only [Act.put, List.setIfInBounds_toArray, List.set_cons_zero, List.set_cons_succ]
  refine g_run (i := 5) rfl (by kernel_rfl) (by rfl) (fun K hK => ?_)
  go_simp; refine (AL.out _).mono ?_; rintro e w9 ⟨rfl, rfl⟩; refine hK _ _ ⟨Below.refl _ _, ?_⟩; clear hK K
  try simp only [Act.put, List.setIfInBounds_toArray, List.set_cons_zero, List.set_cons_succ]
  refine g_take (i := 6) (d := (some 11)) (v := ?_) rfl rfl (by kernel_rfl) (fun _ _ _ h => h) (by rfl) (fun w' hb' => ?_) ?_
  rotate_left
  · have z1 := HE.out; (try go_simp); (try with_reducible rfl)
  try simp only [Act.put, List.setIfInBounds_toArray, List.set_cons_zero, List.set_cons_succ]
  refine g_run (i := 10) rfl (by kernel_rfl) (by rfl) (fun K hK => ?_)
  go_simp; refine (PR.out _).mono ?_; rintro e w9 ⟨rfl, rfl⟩; refine hK _ _ ⟨Below.refl _ _, ?_⟩; clear hK K
  try simp only [Act.put, List.setIfInBounds_toArray, List.set_cons_zero, List.set_cons_succ]
  refine g_run (i := 11) rfl (by kernel_rfl) (by rfl) (fun K hK => ?_)
  go_simp; refine (WO.out _).mono ?_; rintro e w9 ⟨rfl, rfl⟩; refine hK _ _ ⟨Below.refl _ _, ?_⟩; clear hK K
  try simp only [Act.put, List.setIfInBounds_toArray, List.set_cons_zero, List.set_cons_succ]
  refine g_take (i := 12) (d := (some 4)) (v := ?_) rfl rfl (by kernel_rfl) (fun _ _ _ h => h) (by rfl) (fun w' hb' => ?_) ?_
  rotate_left
  · (try go_simp); (try with_reducible rfl)
  try simp only [Act.put, List.setIfInBounds_toArray, List.set_cons_zero, List.set_cons_succ]
  refine g_done (by kernel_rfl) ?_
  go_wp2_with fail
  go_ret
  exact ⟨rfl, BL2⟩
set_option maxHeartbeats 1000000 in
theorem prepared_any (s : Sl) (vP vC : Value) (n : Int) (w : World) (h : RdS w s vP vC) (hn : -9223372036854775808 ≤ n ∧ n ≤ 9223372036854775807) : Calls Tryd.prog 19 #[sV s vP vC, .int .i64 n] w fun e w' => e = .returned (.bool (prepB s n)) ∧ Below w.heap.size w w' := by
  have FA := Lib.hid (fun w => faults_any n hn w)
  have MY0 := fun w' (g : Below w.heap.size w w') => slMay_any s vP vC w' (h.below g (Nat.le_refl _))
  have PP0 := fun w' (g : Below w.heap.size w w') => preparers_any s vP vC n w' (h.below g (Nat.le_refl _)) hn.2
  have CO0 := fun w' => count_any (prN s n) (prN_lt s n) w'
  have hb : 0 ≤ fN n ∧ fN n ≤ 5 := by have := fN_cases n; omega
  have hkk : popK 64 (prN s n) ≤ 64 := pop_le _ _
  obtain ⟨R, hR⟩ : ∃ R, R = prepB s n := ⟨_, rfl⟩
  rw [← hR]
  have hR2 : R = (decide (fN n ≠ 0) && (mayS s && (s.has && decide (2 * fN n ≤ (popK 64 (prN s n) : Int))))) := by
    rw [hR]
    unfold prepB
    cases hm : mayS s with
    | false => simp
    | true => rw [show popK 64 (prN s n) = _ from prep_count (mayS_are hm).1]
  clear hR
  obtain ⟨f, hf⟩ : ∃ f, f = fN n := ⟨_, rfl⟩
  rw [← hf] at FA hb hR2
  obtain ⟨m, hm⟩ : ∃ m, m = mayS s := ⟨_, rfl⟩
  rw [← hm] at MY0 hR2
  obtain ⟨k, hk⟩ : ∃ k, k = popK 64 (prN s n) := ⟨_, rfl⟩
  rw [← hk] at CO0 hR2 hkk
  obtain ⟨pr, hpr⟩ : ∃ pr, pr = prN s n := ⟨_, rfl⟩
  rw [← hpr] at CO0 PP0
  obtain ⟨has, vw, tm, body, ps, cs⟩ := s
  simp only at hR2
  unfold sV at MY0 PP0 ⊢
  simp only at MY0 PP0 ⊢
  obtain ⟨S, hS⟩ : ∃ S, S = str body := ⟨_, rfl⟩
  rw [← hS] at MY0 PP0 ⊢
  have HR := Lib.hid hR2
  have MY := Lib.hid MY0
  have PP := Lib.hid PP0
  have CO := Lib.hid CO0
  have q0 := heap_alloc_new w (.cells #[.bool has, .int .i64 vw, .int .i64 tm, .string S, vP, vC] 24)
  have bel := (Below.refl w.heap.size w).alloc (Nat.le_refl _) (.cells #[.bool has, .int .i64 vw, .int .i64 tm, .string S, vP, vC] 24)
  clear h MY0 PP0 CO0 hS hR2 hf hm hk hpr hn
  by_cases hf0 : f = 0
  · subst hf0
    simp only [if_true] at FA
    have hf0 : (0 : Int) = 0 := rfl
    have RES := Lib.hid (show R = false by rw [HR.out]; simp [hf0])
    clear hf0
    go_enter Tryd.func19, Tryd.ntmps19
    go_wp2_with (first | ((with_reducible refine (FA.out _).mono ?_); rintro e w9 ⟨rfl, rfl⟩) | ((with_reducible refine (MY.out _ bel).mono ?_); rintro e w2 ⟨rfl, g⟩; (have q0 := (g.block _ (lt_of_block q0)).trans q0); (obtain ⟨d0, d1, d2, d3, d4, d5, df⟩ := block_cells6 q0); (have bel := chain bel g); clear g) | ((with_reducible refine (PP.out _ bel).mono ?_); rintro e w3 ⟨rfl, g⟩; (have q0 := (g.block _ (lt_of_block q0)).trans q0); (obtain ⟨d0, d1, d2, d3, d4, d5, df⟩ := block_cells6 q0); (have bel := chain bel g); clear g) | ((with_reducible refine (CO.out _).mono ?_); rintro e w9 ⟨rfl, rfl⟩))
    go_ret
    exact ⟨ret_b RES.out.symm, bel⟩
  · simp only [if_neg hf0] at FA
    cases m with
    | false =>
      have RES := Lib.hid (show R = false by rw [HR.out]; simp [hf0])
      clear hf0
      go_enter Tryd.func19, Tryd.ntmps19
      go_wp2_with (first | ((with_reducible refine (FA.out _).mono ?_); rintro e w9 ⟨rfl, rfl⟩) | ((with_reducible refine (MY.out _ bel).mono ?_); rintro e w2 ⟨rfl, g⟩; (have q0 := (g.block _ (lt_of_block q0)).trans q0); (obtain ⟨d0, d1, d2, d3, d4, d5, df⟩ := block_cells6 q0); (have bel := chain bel g); clear g) | ((with_reducible refine (PP.out _ bel).mono ?_); rintro e w3 ⟨rfl, g⟩; (have q0 := (g.block _ (lt_of_block q0)).trans q0); (obtain ⟨d0, d1, d2, d3, d4, d5, df⟩ := block_cells6 q0); (have bel := chain bel g); clear g) | ((with_reducible refine (CO.out _).mono ?_); rintro e w9 ⟨rfl, rfl⟩))
      go_ret
      exact ⟨ret_b RES.out.symm, bel⟩
    | true =>
      cases has with
      | false =>
        have RES := Lib.hid (show R = false by rw [HR.out]; simp [hf0])
        clear hf0
        go_enter Tryd.func19, Tryd.ntmps19
        go_wp2_with (first | ((with_reducible refine (FA.out _).mono ?_); rintro e w9 ⟨rfl, rfl⟩) | ((with_reducible refine (MY.out _ bel).mono ?_); rintro e w2 ⟨rfl, g⟩; (have q0 := (g.block _ (lt_of_block q0)).trans q0); (obtain ⟨d0, d1, d2, d3, d4, d5, df⟩ := block_cells6 q0); (have bel := chain bel g); clear g) | ((with_reducible refine (PP.out _ bel).mono ?_); rintro e w3 ⟨rfl, g⟩; (have q0 := (g.block _ (lt_of_block q0)).trans q0); (obtain ⟨d0, d1, d2, d3, d4, d5, df⟩ := block_cells6 q0); (have bel := chain bel g); clear g) | ((with_reducible refine (CO.out _).mono ?_); rintro e w9 ⟨rfl, rfl⟩))
        go_ret
        exact ⟨ret_b RES.out.symm, bel⟩
      | true =>
        by_cases hc : 2 * f ≤ (k : Int)
        · have dc : decide (2 * f ≤ (k : Int)) = true := decide_eq_true hc
          have RES := Lib.hid (show R = true by rw [HR.out]; simp [hf0, hc])
          clear hf0 hc
          go_enter Tryd.func19, Tryd.ntmps19
          go_wp2_with (first | ((with_reducible refine (FA.out _).mono ?_); rintro e w9 ⟨rfl, rfl⟩) | ((with_reducible refine (MY.out _ bel).mono ?_); rintro e w2 ⟨rfl, g⟩; (have q0 := (g.block _ (lt_of_block q0)).trans q0); (obtain ⟨d0, d1, d2, d3, d4, d5, df⟩ := block_cells6 q0); (have bel := chain bel g); clear g) | ((with_reducible refine (PP.out _ bel).mono ?_); rintro e w3 ⟨rfl, g⟩; (have q0 := (g.block _ (lt_of_block q0)).trans q0); (obtain ⟨d0, d1, d2, d3, d4, d5, df⟩ := block_cells6 q0); (have bel := chain bel g); clear g) | ((with_reducible refine (CO.out _).mono ?_); rintro e w9 ⟨rfl, rfl⟩))
          go_ret
          exact ⟨ret_b RES.out.symm, bel⟩
        · have dc : decide (2 * f ≤ (k : Int)) = false := decide_eq_false hc
          have RES := Lib.hid (show R = false by rw [HR.out]; simp [hf0, hc])
          clear hf0 hc
          go_enter Tryd.func19, Tryd.ntmps19
          go_wp2_with (first | ((with_reducible refine (FA.out _).mono ?_); rintro e w9 ⟨rfl, rfl⟩) | ((with_reducible refine (MY.out _ bel).mono ?_); rintro e w2 ⟨rfl, g⟩; (have q0 := (g.block _ (lt_of_block q0)).trans q0); (obtain ⟨d0, d1, d2, d3, d4, d5, df⟩ := block_cells6 q0); (have bel := chain bel g); clear g) | ((with_reducible refine (PP.out _ bel).mono ?_); rintro e w3 ⟨rfl, g⟩; (have q0 := (g.block _ (lt_of_block q0)).trans q0); (obtain ⟨d0, d1, d2, d3, d4, d5, df⟩ := block_cells6 q0); (have bel := chain bel g); clear g) | ((with_reducible refine (CO.out _).mono ?_); rintro e w9 ⟨rfl, rfl⟩))
          go_ret
          exact ⟨ret_b RES.out.symm, bel⟩
set_option maxHeartbeats 1000000 in
theorem committed_any (s : Sl) (vP vC : Value) (n : Int) (w : World) (h : RdS w s vP vC) (hn : -9223372036854775808 ≤ n ∧ n ≤ 9223372036854775807) : Calls Tryd.prog 21 #[sV s vP vC, .int .i64 n] w fun e w' => e = .returned (.bool (comB s n)) ∧ Below w.heap.size w w' := by
  have PD0 := fun w' (g : Below w.heap.size w w') => prepared_any s vP vC n w' (h.below g (Nat.le_refl _)) hn
  have AG0 := fun w' (g : Below w.heap.size w w') => agreeing_any s vP vC vC s.cs w' (h.c.below g (Nat.le_refl _))
  have IS0 := fun w' => isStrong_any (agrN s.vw s.tm s.cs) (agrN_lt _ _ _) n hn w'
  obtain ⟨R, hR⟩ : ∃ R, R = comB s n := ⟨_, rfl⟩
  rw [← hR]
  have hR2 : R = (prepB s n && enoughB (agrN s.vw s.tm s.cs) n (strongZ n)) := by
    rw [hR]
    unfold comB
    cases hp : prepB s n with
    | false => rfl
    | true =>
      unfold prepB at hp
      simp only [Bool.and_eq_true, decide_eq_true_eq] at hp
      have hb : 0 ≤ fN n ∧ fN n ≤ 5 := by have := fN_cases n; omega
      have e : strongZ n = 2 * fN n + 1 := by unfold strongZ; rw [if_neg hp.1]
      rw [e, enough_cnt _ _ _ (by omega), com_count (mayS_are hp.2.1).2.1]
  clear hR
  obtain ⟨p, hp⟩ : ∃ p, p = prepB s n := ⟨_, rfl⟩
  rw [← hp] at PD0 hR2
  obtain ⟨c, hc⟩ : ∃ c, c = enoughB (agrN s.vw s.tm s.cs) n (strongZ n) := ⟨_, rfl⟩
  rw [← hc] at IS0 hR2
  obtain ⟨ag, hag⟩ : ∃ ag, ag = agrN s.vw s.tm s.cs := ⟨_, rfl⟩
  rw [← hag] at IS0 AG0
  obtain ⟨has, vw, tm, body, ps, cs⟩ := s
  unfold sV at PD0 AG0 ⊢
  simp only at PD0 AG0 ⊢
  obtain ⟨S, hS⟩ : ∃ S, S = str body := ⟨_, rfl⟩
  rw [← hS] at PD0 AG0 ⊢
  have HR := Lib.hid hR2
  have PD := Lib.hid PD0
  have AG := Lib.hid AG0
  have IS := Lib.hid IS0
  have q0 := heap_alloc_new w (.cells #[.bool has, .int .i64 vw, .int .i64 tm, .string S, vP, vC] 24)
  have bel := (Below.refl w.heap.size w).alloc (Nat.le_refl _) (.cells #[.bool has, .int .i64 vw, .int .i64 tm, .string S, vP, vC] 24)
  clear h PD0 AG0 IS0 hS hR2 hp hc hag hn
  cases p with
  | false =>
    have RES := Lib.hid (show R = false by rw [HR.out]; rfl)
    go_enter Tryd.func21, Tryd.ntmps21
    go_wp2_with (first | ((with_reducible refine (PD.out _ bel).mono ?_); rintro e w4 ⟨rfl, g⟩; (have q0 := (g.block _ (lt_of_block q0)).trans q0); (obtain ⟨d0, d1, d2, d3, d4, d5, df⟩ := block_cells6 q0); (have bel := chain bel g); clear g) | ((with_reducible refine (AG.out _ bel).mono ?_); rintro e w5 ⟨rfl, g⟩; (have q0 := (g.block _ (lt_of_block q0)).trans q0); (obtain ⟨d0, d1, d2, d3, d4, d5, df⟩ := block_cells6 q0); (have bel := chain bel g); clear g) | ((with_reducible refine (IS.out _).mono ?_); rintro e w9 ⟨rfl, rfl⟩))
    go_ret
    exact ⟨ret_b RES.out.symm, bel⟩
  | true =>
    cases c with
    | false =>
      have RES := Lib.hid (show R = false by rw [HR.out]; rfl)
      go_enter Tryd.func21, Tryd.ntmps21
      go_wp2_with (first | ((with_reducible refine (PD.out _ bel).mono ?_); rintro e w4 ⟨rfl, g⟩; (have q0 := (g.block _ (lt_of_block q0)).trans q0); (obtain ⟨d0, d1, d2, d3, d4, d5, df⟩ := block_cells6 q0); (have bel := chain bel g); clear g) | ((with_reducible refine (AG.out _ bel).mono ?_); rintro e w5 ⟨rfl, g⟩; (have q0 := (g.block _ (lt_of_block q0)).trans q0); (obtain ⟨d0, d1, d2, d3, d4, d5, df⟩ := block_cells6 q0); (have bel := chain bel g); clear g) | ((with_reducible refine (IS.out _).mono ?_); rintro e w9 ⟨rfl, rfl⟩))
      go_ret
      exact ⟨ret_b RES.out.symm, bel⟩
    | true =>
      have RES := Lib.hid (show R = true by rw [HR.out]; rfl)
      go_enter Tryd.func21, Tryd.ntmps21
      go_wp2_with (first | ((with_reducible refine (PD.out _ bel).mono ?_); rintro e w4 ⟨rfl, g⟩; (have q0 := (g.block _ (lt_of_block q0)).trans q0); (obtain ⟨d0, d1, d2, d3, d4, d5, df⟩ := block_cells6 q0); (have bel := chain bel g); clear g) | ((with_reducible refine (AG.out _ bel).mono ?_); rintro e w5 ⟨rfl, g⟩; (have q0 := (g.block _ (lt_of_block q0)).trans q0); (obtain ⟨d0, d1, d2, d3, d4, d5, df⟩ := block_cells6 q0); (have bel := chain bel g); clear g) | ((with_reducible refine (IS.out _).mono ?_); rintro e w9 ⟨rfl, rfl⟩))
      go_ret
      exact ⟨ret_b RES.out.symm, bel⟩
end Go.Proofs.YtgmblgpfgdfnaaaDoor
