/- Stores: fits, May. Written by wip/tools/gen13b.py. -/
/- Stores: Few, Same. Written by wip/tools/gen13c.py. -/
import Derived.Test.YtbdfcgffkonbiaaDoorQST24
import Derived.Test.YtbdfcgffkonbiaaDoorQST21
namespace Go.Proofs.YtbdfcgffkonbiaaDoor
open Go Go.RowKit
set_option linter.unusedVariables false
set_option linter.unusedSimpArgs false
theorem tC_infoA {cs : Array Value} (h : cs.size = 35) : (Tryd.prog.info? 26).map (·.size) = some (tC cs).size := by rw [infoT, tC_size h]
theorem ix16v (bs : Array Value) (k : Nat) (v : Value) (hk : k < 16) (h : bs[k]? = some v) (w : World) : (Instr.index 24 (.agg bs) (.int .i64 (k : Int))).run Tryd.prog w = .ok v w := by
  have e1 : (sizeOf 3).run Tryd.prog w = .ok 1 w := by kernel_rfl
  have e2 : (isAgg 3).run Tryd.prog w = .ok false w := by kernel_rfl
  have e3 : (0 ≤ (k : Int) ∧ (k : Int) < 16) := by omega
  unfold Instr.index
  simp [asIntOf, run_underlying Tryd.underlying24, Sem.run_bind, e1, e2, e3, part, h]
  omega
theorem info16v : (Tryd.prog.info? 24).map (·.size) = some 16 := by kernel_rfl
/-- The cells of a store's versions. -/
theorem vers_info {cs : Array Value} (h : cs.size = 35) : (Tryd.prog.info? 24).map (·.size) = some (subA cs 16 16).size := by rw [info16v, subA_size (by omega)]
theorem vers_at {w : World} {cs : Array Value} {s : St} (h : RdS w cs s) {k : Nat} (hk : k < 16) : (subA cs 16 16)[k]? = some (.int .i64 (s.vs k)) := by
  rw [subA_at hk, ← tC_at (by omega), h.tr.ver k hk]
set_option maxRecDepth 100000 in
set_option maxHeartbeats 1000000 in
theorem fits_any (cs : Array Value) (s : St) (w : World) (tab : TabAt w) (h : RdS w cs s) (hsz : SzT s.lv) (hwf : WfT s.lv) (h100 : ∀ b, b < 16 → (s.lv b).length ≤ 100) :
    Calls Tryd.prog 59 #[.agg cs] w fun e w' => e = .returned (.bool (fitsB s)) ∧ Below w.heap.size w w' := by
  have hs := h.size
  have q1 := heap_alloc_new w (.cells cs 28)
  have bel := (Below.refl w.heap.size w).alloc (Nat.le_refl _) (.cells cs 28)
  obtain ⟨W1, hW1⟩ : ∃ W1, W1 = w.alloc (.cells cs 28) := ⟨_, rfl⟩
  rw [← hW1] at q1 bel
  obtain ⟨N1, hN1⟩ : ∃ N, N = sumT weightL s.lv s.vs := ⟨_, rfl⟩
  obtain ⟨N2, hN2⟩ : ∃ N, N = sumT List.length s.lv s.vs := ⟨_, rfl⟩
  obtain ⟨R, hR⟩ : ∃ R, R = fitsB s := ⟨_, rfl⟩
  have HR := Lib.hid (show R = (decide ((N1 : Int) ≤ s.by_) && decide ((N2 : Int) ≤ s.ke)) by rw [hR, hN1, hN2]; rfl)
  rw [← hR]
  have WT0 := fun W (g : Below W1.heap.size W1 W) => tweight_any (tC cs) s.lv s.vs W (tab.below (chain bel g)) (h.tr.below (chain bel g) (Nat.le_refl _)) hsz hwf
  have CT0 := fun W (g : Below W1.heap.size W1 W) => count_any (tC cs) s.lv s.vs W (tab.below (chain bel g)) (h.tr.below (chain bel g) (Nat.le_refl _)) hsz h100
  rw [← hN1] at WT0
  rw [← hN2] at CT0
  have WT := Lib.hid WT0
  have CT := Lib.hid CT0
  have H33 := Lib.hid h.by_
  have H34 := Lib.hid h.ke
  have hS := Below.refl W1.heap.size W1
  obtain ⟨B, hB⟩ : ∃ B, B = s.by_ := ⟨_, rfl⟩
  obtain ⟨K9, hK9⟩ : ∃ B, B = s.ke := ⟨_, rfl⟩
  rw [← hB] at HR H33
  rw [← hK9] at HR H34
  have BW := Lib.hid bel
  clear WT0 CT0 hN1 hN2 hR h hsz hwf h100 tab hB hK9 bel
  by_cases h1 : (N1 : Int) ≤ B
  · have t1 : decide ((N1 : Int) ≤ B) = true := decide_eq_true h1
    have E := Lib.hid (show R = decide ((N2 : Int) ≤ K9) by rw [HR.out, t1]; rfl)
    clear h1
    go_enter Tryd.func59, Tryd.ntmps59
    go_wp2_with fail
    rw [← hW1]
    clear hW1
    refine g_start (by kernel_rfl) ?_
    refine g_take (i := 0) (d := (some 3)) (v := ?_) rfl rfl (by kernel_rfl) (fun _ _ _ h => h) (by rfl) (fun w' hb' => ?_) ?_
    rotate_left
    · (try go_simp); (try with_reducible rfl)
    try simp only [Act.put, List.setIfInBounds_toArray, List.set_cons_zero, List.set_cons_succ]
    refine g_take (i := 1) (d := (some 4)) (v := ?_) rfl rfl (by kernel_rfl) (fun _ _ _ h => h) (by rfl) (fun w' hb' => ?_) ?_
    rotate_left
    · (refine load_partO_op _ _ (.tmp 3) ?_ ?_ (tC_range ((hb'.block _ (lt_of_block q1)).trans q1)) Tryd.underlying26 ?_ (tC_infoA hs) <;> rfl); (try go_simp); (try with_reducible rfl)
    try simp only [Act.put, List.setIfInBounds_toArray, List.set_cons_zero, List.set_cons_succ]
    refine g_take (i := 3) (d := (some 6)) (v := ?_) rfl rfl (by kernel_rfl) (fun _ _ _ h => h) (by rfl) (fun w' hb' => ?_) ?_
    rotate_left
    · (try go_simp); (try with_reducible rfl)
    try simp only [Act.put, List.setIfInBounds_toArray, List.set_cons_zero, List.set_cons_succ]
    refine g_take (i := 4) (d := (some 7)) (v := ?_) rfl rfl (by kernel_rfl) (fun _ _ _ h => h) (by rfl) (fun w' hb' => ?_) ?_
    rotate_left
    · have zz := (block_cell ((hb'.block _ (lt_of_block q1)).trans q1) 33).trans H33.out; (try go_simp); (try with_reducible rfl)
    try simp only [Act.put, List.setIfInBounds_toArray, List.set_cons_zero, List.set_cons_succ]
    refine g_run (i := 2) rfl (by kernel_rfl) (by rfl) (fun K hK => ?_)
    go_simp; refine (WT.out _ (Below.drew hS)).mono ?_; rintro e u2 ⟨rfl, gg⟩; have hS := chain (Below.drew hS) gg; have q1 := (gg.block _ (lt_of_block q1)).trans q1; refine hK _ _ ⟨gg, ?_⟩; clear hK K gg
    try simp only [Act.put, List.setIfInBounds_toArray, List.set_cons_zero, List.set_cons_succ]
    refine g_take (i := 5) (d := (some 8)) (v := ?_) rfl rfl (by kernel_rfl) (fun _ _ _ h => h) (by rfl) (fun w' hb' => ?_) ?_
    rotate_left
    · (try go_simp); (try with_reducible rfl)
    try simp only [Act.put, List.setIfInBounds_toArray, List.set_cons_zero, List.set_cons_succ]
    refine g_take (i := 6) (d := (some 9)) (v := ?_) rfl rfl (by kernel_rfl) (fun _ _ _ h => h) (by rfl) (fun w' hb' => ?_) ?_
    rotate_left
    · (try go_simp); (try with_reducible rfl)
    try simp only [Act.put, List.setIfInBounds_toArray, List.set_cons_zero, List.set_cons_succ]
    refine g_take (i := 7) (d := (some 10)) (v := ?_) rfl rfl (by kernel_rfl) (fun _ _ _ h => h) (by rfl) (fun w' hb' => ?_) ?_
    rotate_left
    · (try go_simp); (try with_reducible rfl)
    try simp only [Act.put, List.setIfInBounds_toArray, List.set_cons_zero, List.set_cons_succ]
    refine g_take (i := 8) (d := (some 11)) (v := ?_) rfl rfl (by kernel_rfl) (fun _ _ _ h => h) (by rfl) (fun w' hb' => ?_) ?_
    rotate_left
    · (refine load_partO_op _ _ (.tmp 10) ?_ ?_ (tC_range ((hb'.block _ (lt_of_block q1)).trans q1)) Tryd.underlying26 ?_ (tC_infoA hs) <;> rfl); (try go_simp); (try with_reducible rfl)
    try simp only [Act.put, List.setIfInBounds_toArray, List.set_cons_zero, List.set_cons_succ]
    refine g_take (i := 10) (d := (some 13)) (v := ?_) rfl rfl (by kernel_rfl) (fun _ _ _ h => h) (by rfl) (fun w' hb' => ?_) ?_
    rotate_left
    · (try go_simp); (try with_reducible rfl)
    try simp only [Act.put, List.setIfInBounds_toArray, List.set_cons_zero, List.set_cons_succ]
    refine g_take (i := 11) (d := (some 14)) (v := ?_) rfl rfl (by kernel_rfl) (fun _ _ _ h => h) (by rfl) (fun w' hb' => ?_) ?_
    rotate_left
    · have zz := (block_cell ((hb'.block _ (lt_of_block q1)).trans q1) 34).trans H34.out; (try go_simp); (try with_reducible rfl)
    try simp only [Act.put, List.setIfInBounds_toArray, List.set_cons_zero, List.set_cons_succ]
    refine g_run (i := 9) rfl (by kernel_rfl) (by rfl) (fun K hK => ?_)
    go_simp; refine (CT.out _ hS).mono ?_; rintro e u9 ⟨rfl, gg⟩; have hS := chain hS gg; have q1 := (gg.block _ (lt_of_block q1)).trans q1; refine hK _ _ ⟨gg, ?_⟩; clear hK K gg
    try simp only [Act.put, List.setIfInBounds_toArray, List.set_cons_zero, List.set_cons_succ]
    refine g_take (i := 12) (d := (some 15)) (v := ?_) rfl rfl (by kernel_rfl) (fun _ _ _ h => h) (by rfl) (fun w' hb' => ?_) ?_
    rotate_left
    · (try go_simp); (try with_reducible rfl)
    try simp only [Act.put, List.setIfInBounds_toArray, List.set_cons_zero, List.set_cons_succ]
    refine g_take (i := 13) (d := (some 16)) (v := ?_) rfl rfl (by kernel_rfl) (fun _ _ _ h => h) (by rfl) (fun w' hb' => ?_) ?_
    rotate_left
    · (try go_simp); (try with_reducible rfl)
    try simp only [Act.put, List.setIfInBounds_toArray, List.set_cons_zero, List.set_cons_succ]
    refine g_take (i := 14) (d := (some 2)) (v := ?_) rfl rfl (by kernel_rfl) (fun _ _ _ h => h) (by rfl) (fun w' hb' => ?_) ?_
    rotate_left
    · (try go_simp); (try with_reducible rfl)
    try simp only [Act.put, List.setIfInBounds_toArray, List.set_cons_zero, List.set_cons_succ]
    refine g_done (by kernel_rfl) ?_
    go_wp2_with fail
    go_ret
    exact ⟨by rw [E.out]; rfl, chain BW.out hS⟩
  · have t1 : decide ((N1 : Int) ≤ B) = false := decide_eq_false h1
    have E := Lib.hid (show R = false by rw [HR.out, t1]; rfl)
    clear h1
    go_enter Tryd.func59, Tryd.ntmps59
    go_wp2_with fail
    rw [← hW1]
    clear hW1
    refine g_start (by kernel_rfl) ?_
    refine g_take (i := 0) (d := (some 3)) (v := ?_) rfl rfl (by kernel_rfl) (fun _ _ _ h => h) (by rfl) (fun w' hb' => ?_) ?_
    rotate_left
    · (try go_simp); (try with_reducible rfl)
    try simp only [Act.put, List.setIfInBounds_toArray, List.set_cons_zero, List.set_cons_succ]
    refine g_take (i := 1) (d := (some 4)) (v := ?_) rfl rfl (by kernel_rfl) (fun _ _ _ h => h) (by rfl) (fun w' hb' => ?_) ?_
    rotate_left
    · (refine load_partO_op _ _ (.tmp 3) ?_ ?_ (tC_range ((hb'.block _ (lt_of_block q1)).trans q1)) Tryd.underlying26 ?_ (tC_infoA hs) <;> rfl); (try go_simp); (try with_reducible rfl)
    try simp only [Act.put, List.setIfInBounds_toArray, List.set_cons_zero, List.set_cons_succ]
    refine g_take (i := 3) (d := (some 6)) (v := ?_) rfl rfl (by kernel_rfl) (fun _ _ _ h => h) (by rfl) (fun w' hb' => ?_) ?_
    rotate_left
    · (try go_simp); (try with_reducible rfl)
    try simp only [Act.put, List.setIfInBounds_toArray, List.set_cons_zero, List.set_cons_succ]
    refine g_take (i := 4) (d := (some 7)) (v := ?_) rfl rfl (by kernel_rfl) (fun _ _ _ h => h) (by rfl) (fun w' hb' => ?_) ?_
    rotate_left
    · have zz := (block_cell ((hb'.block _ (lt_of_block q1)).trans q1) 33).trans H33.out; (try go_simp); (try with_reducible rfl)
    try simp only [Act.put, List.setIfInBounds_toArray, List.set_cons_zero, List.set_cons_succ]
    refine g_run (i := 2) rfl (by kernel_rfl) (by rfl) (fun K hK => ?_)
    go_simp; refine (WT.out _ (Below.drew hS)).mono ?_; rintro e u2 ⟨rfl, gg⟩; have hS := chain (Below.drew hS) gg; have q1 := (gg.block _ (lt_of_block q1)).trans q1; refine hK _ _ ⟨gg, ?_⟩; clear hK K gg
    try simp only [Act.put, List.setIfInBounds_toArray, List.set_cons_zero, List.set_cons_succ]
    refine g_take (i := 5) (d := (some 8)) (v := ?_) rfl rfl (by kernel_rfl) (fun _ _ _ h => h) (by rfl) (fun w' hb' => ?_) ?_
    rotate_left
    · (try go_simp); (try with_reducible rfl)
    try simp only [Act.put, List.setIfInBounds_toArray, List.set_cons_zero, List.set_cons_succ]
    refine g_take (i := 6) (d := (some 9)) (v := ?_) rfl rfl (by kernel_rfl) (fun _ _ _ h => h) (by rfl) (fun w' hb' => ?_) ?_
    rotate_left
    · (try go_simp); (try with_reducible rfl)
    try simp only [Act.put, List.setIfInBounds_toArray, List.set_cons_zero, List.set_cons_succ]
    refine g_skip (i := 7) (d := (some 10)) rfl rfl (by kernel_rfl) (fun _ _ _ h => h) (by rfl) ?_
    try simp only [Act.put, List.setIfInBounds_toArray, List.set_cons_zero, List.set_cons_succ]
    refine g_skip (i := 8) (d := (some 11)) rfl rfl (by kernel_rfl) (fun _ _ _ h => h) (by rfl) ?_
    try simp only [Act.put, List.setIfInBounds_toArray, List.set_cons_zero, List.set_cons_succ]
    refine g_skip (i := 9) (d := (some 12)) rfl rfl (by kernel_rfl) (fun _ _ _ h => h) (by rfl) ?_
    try simp only [Act.put, List.setIfInBounds_toArray, List.set_cons_zero, List.set_cons_succ]
    refine g_skip (i := 10) (d := (some 13)) rfl rfl (by kernel_rfl) (fun _ _ _ h => h) (by rfl) ?_
    try simp only [Act.put, List.setIfInBounds_toArray, List.set_cons_zero, List.set_cons_succ]
    refine g_skip (i := 11) (d := (some 14)) rfl rfl (by kernel_rfl) (fun _ _ _ h => h) (by rfl) ?_
    try simp only [Act.put, List.setIfInBounds_toArray, List.set_cons_zero, List.set_cons_succ]
    refine g_skip (i := 12) (d := (some 15)) rfl rfl (by kernel_rfl) (fun _ _ _ h => h) (by rfl) ?_
    try simp only [Act.put, List.setIfInBounds_toArray, List.set_cons_zero, List.set_cons_succ]
    refine g_take (i := 13) (d := (some 16)) (v := ?_) rfl rfl (by kernel_rfl) (fun _ _ _ h => h) (by rfl) (fun w' hb' => ?_) ?_
    rotate_left
    · (try go_simp); (try with_reducible rfl)
    try simp only [Act.put, List.setIfInBounds_toArray, List.set_cons_zero, List.set_cons_succ]
    refine g_take (i := 14) (d := (some 2)) (v := ?_) rfl rfl (by kernel_rfl) (fun _ _ _ h => h) (by rfl) (fun w' hb' => ?_) ?_
    rotate_left
    · (try go_simp); (try with_reducible rfl)
    try simp only [Act.put, List.setIfInBounds_toArray, List.set_cons_zero, List.set_cons_succ]
    refine g_done (by kernel_rfl) ?_
    go_wp2_with fail
    go_ret
    exact ⟨by rw [E.out]; rfl, chain BW.out hS⟩
set_option maxRecDepth 100000 in
set_option maxHeartbeats 2000000 in
theorem may13_any (cs : Array Value) (s : St) (w : World) (tab : TabAt w) (h : RdS w cs s) (hsz : SzT s.lv) (hwf : WfT s.lv) (h100 : ∀ b, b < 16 → (s.lv b).length ≤ 100) :
    Calls Tryd.prog 19 #[.agg cs] w fun e w' => e = .returned (.bool (mayS s)) ∧ Below w.heap.size w w' := by
  have hs := h.size
  have hi := infoS h.size
  have q1 := heap_alloc_new w (.cells cs 28)
  have bel := (Below.refl w.heap.size w).alloc (Nat.le_refl _) (.cells cs 28)
  obtain ⟨W1, hW1⟩ : ∃ W1, W1 = w.alloc (.cells cs 28) := ⟨_, rfl⟩
  rw [← hW1] at q1 bel
  have c32 := (block_cell q1 32).trans h.ver
  have c33 := (block_cell q1 33).trans h.by_
  have c34 := (block_cell q1 34).trans h.ke
  have HV := Lib.hid (fun k (hk : k < 16) => vers_at h hk)
  have MY := Lib.hid (fun W (g : Below W1.heap.size W1 W) => tmay_any (tC cs) s.lv s.vs W (tab.below (chain bel g)) (h.tr.below (chain bel g) (Nat.le_refl _)) hsz)
  have FT0 := fun W (g : Below W1.heap.size W1 W) => fits_any cs s W (tab.below (chain bel g)) (h.below (chain bel g) (Nat.le_refl _)) hsz hwf h100
  obtain ⟨FB, hFB⟩ : ∃ B, B = fitsB s := ⟨_, rfl⟩
  rw [← hFB] at FT0
  have FT := Lib.hid FT0
  have hS := Below.refl W1.heap.size W1
  have BW := Lib.hid bel
  obtain ⟨R, hR⟩ : ∃ R, R = mayS s := ⟨_, rfl⟩
  rw [← hR]
  have HR0 : R = (rngB s.ver 2147483647 && rngB s.by_ 65536 && rngB s.ke 1024 && versB s.vs s.ver 16 && mayTs s.lv s.vs 16 && FB) := by rw [hR, hFB]; rfl
  clear h hsz hwf h100 tab bel FT0 hFB hR
  obtain ⟨lv, vs, V, B, K9⟩ := s
  simp only [] at c32 c33 c34 HR0 HV MY
  have HR := Lib.hid HR0
  clear HR0
  by_cases k0 : V < 0
  · have t0 : decide (V < 0) = true := decide_eq_true k0
    have E := Lib.hid (show R = false by rw [HR.out, show rngB V 2147483647 = false by unfold rngB; simp; omega]; simp)
    subst hW1
    go_enter Tryd.func19, Tryd.ntmps19
    go_wp2_with fail
    go_ret
    exact ⟨by rw [E.out]; rfl, BW.out⟩
  · have t0 : decide (V < 0) = false := decide_eq_false k0
    by_cases k1 : 2147483647 < V
    · have t1 : decide (2147483647 < V) = true := decide_eq_true k1
      have E := Lib.hid (show R = false by rw [HR.out, show rngB V 2147483647 = false by unfold rngB; simp; omega]; simp)
      subst hW1
      go_enter Tryd.func19, Tryd.ntmps19
      go_wp2_with fail
      go_ret
      exact ⟨by rw [E.out]; rfl, BW.out⟩
    · have t1 : decide (2147483647 < V) = false := decide_eq_false k1
      by_cases k2 : B < 0
      · have t2 : decide (B < 0) = true := decide_eq_true k2
        have E := Lib.hid (show R = false by rw [HR.out, show rngB B 65536 = false by unfold rngB; simp; omega]; simp)
        subst hW1
        go_enter Tryd.func19, Tryd.ntmps19
        go_wp2_with fail
        go_ret
        exact ⟨by rw [E.out]; rfl, BW.out⟩
      · have t2 : decide (B < 0) = false := decide_eq_false k2
        by_cases k3 : 65536 < B
        · have t3 : decide (65536 < B) = true := decide_eq_true k3
          have E := Lib.hid (show R = false by rw [HR.out, show rngB B 65536 = false by unfold rngB; simp; omega]; simp)
          subst hW1
          go_enter Tryd.func19, Tryd.ntmps19
          go_wp2_with fail
          go_ret
          exact ⟨by rw [E.out]; rfl, BW.out⟩
        · have t3 : decide (65536 < B) = false := decide_eq_false k3
          by_cases k4 : K9 < 0
          · have t4 : decide (K9 < 0) = true := decide_eq_true k4
            have E := Lib.hid (show R = false by rw [HR.out, show rngB K9 1024 = false by unfold rngB; simp; omega]; simp)
            subst hW1
            go_enter Tryd.func19, Tryd.ntmps19
            go_wp2_with fail
            go_ret
            exact ⟨by rw [E.out]; rfl, BW.out⟩
          · have t4 : decide (K9 < 0) = false := decide_eq_false k4
            by_cases k5 : 1024 < K9
            · have t5 : decide (1024 < K9) = true := decide_eq_true k5
              have E := Lib.hid (show R = false by rw [HR.out, show rngB K9 1024 = false by unfold rngB; simp; omega]; simp)
              subst hW1
              go_enter Tryd.func19, Tryd.ntmps19
              go_wp2_with fail
              go_ret
              exact ⟨by rw [E.out]; rfl, BW.out⟩
            · have t5 : decide (1024 < K9) = false := decide_eq_false k5
              have E0 := Lib.hid (show R = (versB vs V 16 && mayTs lv vs 16 && FB) by
                rw [HR.out, show rngB V 2147483647 = true by unfold rngB; simp; omega, show rngB B 65536 = true by unfold rngB; simp; omega, show rngB K9 1024 = true by unfold rngB; simp; omega]; simp)
              clear k0 k1 k2 k3 k4 k5
              subst hW1
              go_enter Tryd.func19, Tryd.ntmps19
              go_wp2_with ((with_reducible refine wpList_load_part (o := ⟨some 35, _, _, _, _, _⟩) rfl 24 (.tmp 34) rfl _ 16 rfl (subA cs 16 16) _ (subA_range q1) Tryd.underlying24 rfl (vers_info hs) ?_))
              go_loopw [36] (fun i wr => ∃ k : Nat, k ≤ 16 ∧ i = .int .i64 (k : Int) ∧ Hid (versB vs V k = true) ∧ wr = w.alloc (.cells cs 28)) (fun i _ => 20 - (intOf i).toNat)
              case atStart => exact ⟨0, Nat.zero_le _, rfl, Lib.hid rfl, rfl⟩
              case round =>
                obtain ⟨k, hk, rfl, HA, rfl⟩ := hrel
                by_cases hlt : k < 16
                · have hX := fun W => ix16v (subA cs 16 16) k (.int .i64 (vs k)) hlt (HV.out k hlt) W
                  by_cases hv : V < vs k
                  · have tv : decide (V < vs k) = true := decide_eq_true hv
                    have E := Lib.hid (show R = false by rw [E0.out, versB_no hlt (by omega)]; rfl)
                    go_wp2_with fail
                    go_ret
                    exact ⟨by rw [E.out]; rfl, BW.out⟩
                  · have tv : decide (V < vs k) = false := decide_eq_false hv
                    have HN := Lib.hid (show versB vs V (k + 1) = true by rw [versB_succ, HA.out]; simp; omega)
                    go_wp2_with fail
                    exact ⟨⟨k + 1, by omega, by push_cast; rfl, HN, trivial⟩, by simp [intOf]; omega⟩
                · obtain rfl : k = 16 := by omega
                  have E1 := Lib.hid (show R = (mayTs lv vs 16 && FB) by rw [E0.out, HA.out]; rfl)
                  cases hm : mayTs lv vs 16 with
                  | false =>
                    have E := Lib.hid (show R = false by rw [E1.out, hm]; rfl)
                    have MY := MY.out _ hS
                    rw [hm] at MY
                    clear hm
                    go_wp2_with ((with_reducible refine wpList_load_part (o := ⟨some 45, _, _, _, _, _⟩) rfl 26 (.tmp 44) rfl _ 0 rfl (tC cs) _ (tC_range q1) Tryd.underlying26 rfl (tC_infoA hs) ?_))
                    refine MY.mono ?_
                    rintro e w2 ⟨rfl, g⟩
                    have hS := chain hS g
                    clear MY g
                    go_wp2_with fail
                    go_ret
                    exact ⟨by rw [E.out]; rfl, chain BW.out hS⟩
                  | true =>
                    have E := Lib.hid (show R = FB by rw [E1.out, hm]; rfl)
                    have MY := MY.out _ hS
                    rw [hm] at MY
                    clear hm
                    go_wp2_with ((with_reducible refine wpList_load_part (o := ⟨some 45, _, _, _, _, _⟩) rfl 26 (.tmp 44) rfl _ 0 rfl (tC cs) _ (tC_range q1) Tryd.underlying26 rfl (tC_infoA hs) ?_))
                    refine MY.mono ?_
                    rintro e w2 ⟨rfl, g⟩
                    have hS := chain hS g
                    have q1 := (g.block _ (lt_of_block q1)).trans q1
                    clear MY g
                    go_wp2_with ((with_reducible refine wpList_load_row_g (o := ⟨some 48, _, _, _, _, _⟩) ?_ 28 (.tmp 1) rfl _ rfl _ cs (0, 0) _ q1 Tryd.underlying28 rfl hi ?_); rfl)
                    refine (FT.out _ hS).mono ?_
                    rintro e w3 ⟨rfl, g⟩
                    have hS := chain hS g
                    clear g
                    go_wp2_with fail
                    go_ret
                    exact ⟨by rw [E.out]; rfl, chain BW.out hS⟩
end Go.Proofs.YtbdfcgffkonbiaaDoor
namespace Go.Proofs.YtbdfcgffkonbiaaDoor
open Go Go.RowKit
set_option linter.unusedVariables false
set_option linter.unusedSimpArgs false
def zS : Array Value := #[.slice none 0 0, .slice none 0 0, .slice none 0 0, .slice none 0 0, .slice none 0 0, .slice none 0 0, .slice none 0 0, .slice none 0 0, .slice none 0 0, .slice none 0 0, .slice none 0 0, .slice none 0 0, .slice none 0 0, .slice none 0 0, .slice none 0 0, .slice none 0 0, .int .i64 0, .int .i64 0, .int .i64 0, .int .i64 0, .int .i64 0, .int .i64 0, .int .i64 0, .int .i64 0, .int .i64 0, .int .i64 0, .int .i64 0, .int .i64 0, .int .i64 0, .int .i64 0, .int .i64 0, .int .i64 0, .int .i64 0, .int .i64 0, .int .i64 0]
theorem zeroS_run (w : World) : (zeroValue 28).run Tryd.prog w = .ok (.agg zS) w := by kernel_rfl
theorem zS_ne : zS ≠ #[] := by simp [zS]
theorem zS_size : zS.size = 35 := rfl
theorem zS_built : Tryd.prog.built 28 [] = some zS := by kernel_rfl
theorem zS_t : tC zS = zT := by kernel_rfl
def stZ : St := ⟨fun _ => [], fun _ => 0, 0, 0, 0⟩
theorem rds_zero (w : World) : RdS w zS stZ := ⟨rfl, by rw [zS_t]; exact rdt_zero w, rfl, rfl, rfl⟩
/-- A store's cells whose leaves all lie in rows of a call's own. -/
structure OwnS (base : Nat) (w : World) (cs : Array Value) (s : St) : Prop where
  size : cs.size = 35
  tr : OwnT base w (tC cs) s.lv s.vs
  ver : cs[32]? = some (.int .i64 s.ver)
  by_ : cs[33]? = some (.int .i64 s.by_)
  ke : cs[34]? = some (.int .i64 s.ke)
theorem OwnS.rd {base : Nat} {w : World} {cs : Array Value} {s : St} (h : OwnS base w cs s) : RdS w cs s := ⟨h.size, h.tr.rd, h.ver, h.by_, h.ke⟩
theorem OwnS.moved {base : Nat} {w w' : World} {cs : Array Value} {s : St} (h : OwnS base w cs s) (hh : ∀ g, base ≤ g → g < w.heap.size → w'.heap[g]? = w.heap[g]?) : OwnS base w' cs s := ⟨h.size, h.tr.moved hh, h.ver, h.by_, h.ke⟩
theorem OwnS.below {base : Nat} {w w' : World} {cs : Array Value} {s : St} (h : OwnS base w cs s) (g : Below w.heap.size w w') : OwnS base w' cs s := h.moved fun k _ hk => g.block k hk
theorem OwnS.base {base base' : Nat} {w : World} {cs : Array Value} {s : St} (h : OwnS base w cs s) (hb : base' ≤ base) : OwnS base' w cs s := ⟨h.size, h.tr.base hb, h.ver, h.by_, h.ke⟩
theorem OwnS.one {base : Nat} {w : World} {cs : Array Value} {s : St} (h : OwnS base w cs s) : cs.all (·.oneCell') = true := Array.all_eq_true_iff_forall_mem.2 fun u hu => h.rd.one u (by simpa using hu)
/-- The store with another trunk. -/
theorem tC_putA {cs ct : Array Value} (h : cs.size = 35) (ht : ct.size = 32) : tC (putA cs 0 ct.toList) = ct := by
  apply Array.ext_getElem?
  intro i
  rcases Nat.lt_or_ge i 32 with hi | hi
  · rw [tC_at hi]
    have := putA_in ct.toList 0 cs i (by simp; omega) (by simp; omega)
    rw [Nat.zero_add] at this
    rw [this]; simp
  · rw [Array.getElem?_eq_none (by rw [tC_size (by rw [putA_size]; exact h)]; exact hi), Array.getElem?_eq_none (by omega)]
theorem putA_rest {cs ct : Array Value} {i : Nat} (ht : ct.size = 32) (hi : 32 ≤ i) : (putA cs 0 ct.toList)[i]? = cs[i]? := putA_out _ _ _ _ (.inr (by simp; omega))
/-- A store of which no more is looked at than may be. -/
def fewS (s : St) : St := ⟨fun b => fewL (s.lv b), s.vs, s.ver, s.by_, s.ke⟩
def FewSP (w : World) (s : St) (e : Ending) (w' : World) : Prop := ∃ cs, e = .returned (.agg cs) ∧ OwnS w.heap.size w' cs (fewS s) ∧ Below w.heap.size w w'
set_option maxRecDepth 100000 in
set_option maxHeartbeats 1000000 in
theorem few13_any (cs : Array Value) (s : St) (w : World) (h : RdS w cs s) (hsz : SzT s.lv) :
    Calls Tryd.prog 13 #[.agg cs] w (FewSP w s) := by
  have hs := h.size
  have hi := infoS h.size
  have z0 := zeroS_run
  have z1 := zS_ne
  obtain ⟨q1, q2, z2, -⟩ := two_allocs w (.cells cs 28) (.cells zS 28)
  have bel : Below w.heap.size w ((w.alloc (.cells cs 28)).alloc (.cells zS 28)) := ((Below.refl _ w).alloc (Nat.le_refl _) _).alloc (by simp) _
  obtain ⟨W0, hW0⟩ : ∃ W0, W0 = (w.alloc (.cells cs 28)).alloc (.cells zS 28) := ⟨_, rfl⟩
  rw [← hW0] at q1 q2 bel z2
  have FW := Lib.hid (few10_any (tC cs) s.lv s.vs W0 (h.tr.below bel (Nat.le_refl _)) hsz)
  have H32 := Lib.hid h.ver
  have H33 := Lib.hid h.by_
  have H34 := Lib.hid h.ke
  obtain ⟨Z, hZ⟩ : ∃ Z, Z = FewSP w s := ⟨_, rfl⟩
  rw [← hZ]
  have HZ := Lib.hid hZ
  have HZ2 := Lib.hid z2
  clear hZ h hsz z2
  subst hW0
  go_enter Tryd.func13, Tryd.ntmps13
  go_wp2_with ((with_reducible refine wpList_load_part (o := ⟨some 4, _, _, _, _, _⟩) rfl 26 (.tmp 3) rfl _ 0 rfl (tC cs) _ (tC_range q1) Tryd.underlying26 rfl (tC_infoA hs) ?_))
  refine FW.out.mono ?_
  rintro e v1 ⟨CF, rfl, own, g⟩
  have q1 := (g.block _ (lt_of_block q1)).trans q1
  have q2 := (g.block _ (lt_of_block q2)).trans q2
  have bel := chain bel g
  rw [HZ2.out] at own
  have hF := own.size
  have hsF := infoTc own.size
  have hoF := own.rd.one
  have th : v1.there w.heap.size 0 CF.size := there_of q1 (by rw [hF, hs]; decide)
  obtain ⟨C2, hC2⟩ : ∃ C, C = putA cs 0 CF.toList := ⟨_, rfl⟩
  have s2 : C2.size = 35 := by rw [hC2, putA_size]; exact hs
  have t2 := Lib.hid (show tC C2 = CF by rw [hC2]; exact tC_putA hs hF)
  have r2 := Lib.hid (show ∀ i, 32 ≤ i → C2[i]? = cs[i]? by rw [hC2]; exact fun i hi => putA_rest hF hi)
  have hi2 := infoS s2
  have hz2 : zS.size = C2.size := by rw [s2]; rfl
  have OS := Lib.hid (show ∀ W, OwnT w.heap.size W CF (fun b => fewL (s.lv b)) s.vs → OwnS w.heap.size W C2 (fewS s) from fun W h => ⟨s2, by rw [t2.out]; exact h, (r2.out 32 (by omega)).trans H32.out, (r2.out 33 (by omega)).trans H33.out, (r2.out 34 (by omega)).trans H34.out⟩)
  have ho2 := (OS.out _ (own.base (by omega))).one
  clear hs hF g s2
  go_wp2_with (first | ((with_reducible refine wpList_load_row (o := ⟨some 7, _, _, _, _, _⟩) rfl 28 (.tmp 1) rfl _ rfl _ C2 (0, 0) _ q1 Tryd.underlying28 rfl hi2 ?_)) | ((with_reducible refine wpList_store_row (o := ⟨none, _, _, _, _, _⟩) rfl 28 (.tmp 2) (.tmp 7) rfl _ C2 rfl rfl _ zS q2 hi2 hz2 ho2 ?_); (obtain ⟨WT, hWT⟩ : ∃ W, W = World.setRow WS (w.heap.size + 1) C2 := ⟨_, rfl⟩); rw [← hWT]; (have q9 : WT.heap[w.heap.size + 1]? = some (.cells C2 28 (0, 0)) := by rw [hWT]; exact setRow_heap _ _ _ C2 _ _ q2); (have own9 : OwnT w.heap.size WT CF (fun b => fewL (s.lv b)) s.vs := by rw [hWT]; exact (own.moved (fun k hk _ => by rw [setRow_other _ _ _ _ (by omega)])).base (by omega)); (have bel9 : Below w.heap.size w WT := by rw [hWT]; exact below_row bel (by omega) C2)) | ((with_reducible refine wpList_store_mid (op := ⟨none, _, _, _, _, _⟩) rfl 26 (.tmp 6) (.tmp 5) rfl _ 0 CF rfl rfl th hsF hoF ?_); (obtain ⟨WS, hWS⟩ : ∃ W, W = World.setCells v1 w.heap.size 0 CF.toList := ⟨_, rfl⟩); rw [← hWS]; (have q1 : WS.heap[w.heap.size]? = some (.cells C2 28 (0, 0)) := by rw [hWS, hC2]; exact sets_row _ _ _ _ q1); (have q2 : WS.heap[w.heap.size + 1]? = some (.cells zS 28 (0, 0)) := by rw [hWS, sets_other (by omega)]; exact q2); (have own : OwnT (w.heap.size + 2) WS CF (fun b => fewL (s.lv b)) s.vs := by rw [hWS]; exact own.moved (fun k hk _ => sets_other (by omega) _ _ _)); (have bel : Below w.heap.size w WS := by rw [hWS]; exact sets_below (Nat.le_refl _) _ _ _ bel); clear hWS))
  refine bodyPost_ret (v := .agg C2) (results_cell_row rfl _ _ _ _ C2 (0, 0) _ rfl q9 Tryd.underlying28 rfl hi2) rfl ?_
  rw [HZ.out]; exact ⟨C2, rfl, OS.out _ own9, bel9⟩
end Go.Proofs.YtbdfcgffkonbiaaDoor
