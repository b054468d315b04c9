/- Clash: the law ClashLists. Written by wip/tools/gen23s.py. -/
import Derived.Test.YtjmfiekgpoonjaaDoorQCLC29
namespace Go.Proofs.YtjmfiekgpoonjaaDoor
open Go Go.RowKit
set_option linter.unusedVariables false
set_option linter.unusedSimpArgs false
set_option maxRecDepth 100000 in
set_option maxHeartbeats 2000000 in
theorem lists_no (v : Value) (ps : List WV) (L : List Wt) (w : World) (tab : TabAt w) (h : RdL w v ps L) (hz : SzL L) (hall : allB (fewLW L) = false) :
    Calls Tryd.prog 4 #[v] w fun e w' => e = .returned (.bool true) ∧ Below w.heap.size w w' := by
  obtain ⟨ao, cap, rfl, -, -, hr⟩ := h.open
  have FW := Lib.hid (fewL_any (.slice ao L.length cap) ps L w hr hz)
  obtain ⟨M, hM⟩ : ∃ M, M = fewLW L := ⟨_, rfl⟩
  have sz : SzL M := by rw [hM]; exact fewLW_sz L
  rw [← hM] at FW hall
  have bel := Below.refl w.heap.size w
  clear h hz hr hM
  go_enter Tryd.func4, Tryd.ntmps4
  go_wp2_with fail
  refine FW.out.mono ?_
  rintro e u1 ⟨v1, p1, rfl, own, g⟩
  obtain ⟨a1, c1, e1, -, -, rd⟩ := own.rd.open
  subst e1
  have t1 := tab.below g
  have bel := chain bel g
  have AH := Lib.hid (fun W (g : Below u1.heap.size u1 W) => aheadF_no (.slice a1 M.length c1) p1 M W (t1.below g) (rd.below g (Nat.le_refl _)) sz hall)
  have RN := Lib.hid (fun W (g : Below u1.heap.size u1 W) => ranks_no (.slice a1 M.length c1) p1 M W (t1.below g) (rd.below g (Nat.le_refl _)) sz hall)
  have RT0 := fun W (g : Below u1.heap.size u1 W) => right_any (.slice a1 M.length c1) p1 M W (t1.below g) (rd.below g (Nat.le_refl _)) sz
  rw [hall] at RT0
  have RT := Lib.hid RT0
  have AW := Lib.hid (fun W (g : Below u1.heap.size u1 W) => awake23_any W (t1.below g))
  have hS := Below.refl u1.heap.size u1
  clear g own rd RT0 sz t1 tab
  go_wp2_with (first | ((with_reducible refine (AH.out _ hS).mono ?_); rintro e w1 ⟨rfl, g⟩; have hS := chain hS g; clear g) | ((with_reducible refine (RN.out _ hS).mono ?_); rintro e w1 ⟨rfl, g⟩; have hS := chain hS g; clear g) | ((with_reducible refine (RT.out _ hS).mono ?_); rintro e w1 ⟨rfl, g⟩; have hS := chain hS g; clear g) | ((with_reducible refine (AW.out _ hS).mono ?_); rintro e w1 ⟨rfl, g⟩; have hS := chain hS g; clear g))
  go_ret
  exact ⟨rfl, chain bel hS⟩
set_option maxRecDepth 100000 in
set_option maxHeartbeats 4000000 in
theorem lists_yes (v : Value) (ps : List WV) (L : List Wt) (w : World) (tab : TabAt w) (h : RdL w v ps L) (hz : SzL L) (hall : allB (fewLW L) = true) :
    Calls Tryd.prog 4 #[v] w fun e w' => e = .returned (.bool true) ∧ Below w.heap.size w w' := by
  obtain ⟨ao, cap, rfl, -, -, hr⟩ := h.open
  have FW := Lib.hid (fewL_any (.slice ao L.length cap) ps L w hr hz)
  obtain ⟨M, hM⟩ : ∃ M, M = fewLW L := ⟨_, rfl⟩
  have sz : SzL M := by rw [hM]; exact fewLW_sz L
  rw [← hM] at FW hall
  have bel := Below.refl w.heap.size w
  clear h hz hr hM
  go_enter Tryd.func4, Tryd.ntmps4
  go_wp2_with fail
  refine FW.out.mono ?_
  rintro e u1 ⟨v1, p1, rfl, own, g⟩
  obtain ⟨a1, c1, e1, hc1, hc2, rd⟩ := own.rd.open
  subst e1
  have t1 := tab.below g
  have bel := chain bel g
  have AH := Lib.hid (fun W (g : Below u1.heap.size u1 W) => aheadF_yes (.slice a1 M.length c1) p1 M W (t1.below g) (rd.below g (Nat.le_refl _)) sz hall)
  have RN := Lib.hid (fun W (g : Below u1.heap.size u1 W) => ranks_yes (.slice a1 M.length c1) p1 M W (t1.below g) (rd.below g (Nat.le_refl _)) sz hall)
  have RT0 := fun W (g : Below u1.heap.size u1 W) => right_any (.slice a1 M.length c1) p1 M W (t1.below g) (rd.below g (Nat.le_refl _)) sz
  rw [hall] at RT0
  have RT := Lib.hid RT0
  have AW := Lib.hid (fun W (g : Below u1.heap.size u1 W) => awake23_any W (t1.below g))
  have PR0 := Lib.hid (fun n (hn : n < M.length) k (hk : k < M.length) W (g : Below u1.heap.size u1 W) => rpair_any (.slice (p1.getD k wv0).a1 (p1.getD k wv0).n1 (p1.getD k wv0).c1) (.slice (p1.getD k wv0).a2 (p1.getD k wv0).n2 (p1.getD k wv0).c2) (.slice (p1.getD n wv0).a1 (p1.getD n wv0).n1 (p1.getD n wv0).c1) (.slice (p1.getD n wv0).a2 (p1.getD n wv0).n2 (p1.getD n wv0).c2) (M.getD k wt0) (M.getD n wt0) W (t1.below g) ((rd.el k hk).below g).1 ((rd.el k hk).below g).2 ((rd.el n hn).below g).1 ((rd.el n hn).below g).2 (sz k hk) (sz n hn))
  have PCL := Lib.hid (fun n (hn : n < M.length) k (hk : k < M.length) => pair_cl hall hn hk)
  have RK0 := Lib.hid (fun i (hi : i < M.length) W (g : Below u1.heap.size u1 W) => rank_any (.slice a1 M.length c1) p1 M i hi W (t1.below g) (rd.below g (Nat.le_refl _)) sz hall)
  have h64 : M.length ≤ 64 := by unfold allB at hall; rw [Bool.and_eq_true, decide_eq_true_eq] at hall; exact hall.1
  obtain ⟨N, hN⟩ : ∃ N, N = M.length := ⟨_, rfl⟩
  rw [← hN] at AH RN RT PR0 PCL RK0 h64 rd hc1
  have HRD := Lib.hid rd
  have HN := Lib.hid hN
  have BW := Lib.hid bel
  have hS := Below.refl u1.heap.size u1
  clear g own rd RT0 sz t1 tab hall bel
  rw [← hN]
  clear hN
  go_wp2_with fail
  refine (AH.out _ hS).mono ?_
  rintro e u2 ⟨aA, nA, cA0, rfl, hA, g⟩
  have hS := chain hS g
  obtain ⟨hn2, hk1, hk2⟩ := hA.open
  rw [ahL_len] at hn2
  subst hn2
  clear g
  go_wp2_with fail
  refine (RN.out _ hS).mono ?_
  rintro e u3 ⟨aR, nR, cR0, rfl, hR, g⟩
  obtain ⟨_, _, hn3, hk3, hk4, -⟩ := RdI.open hR
  injection hn3 with i1 i2 i3
  rw [rkN_len] at i2 hk3
  subst i2
  subst i1
  subst i3
  have hA := hA.below g (Nat.le_refl _)
  have hS := chain hS g
  clear g
  go_wp2_with ((with_reducible refine (RT.out _ hS).mono ?_); rintro e u4 ⟨rfl, g⟩; have hA := hA.below g (Nat.le_refl _); have hR := RdV.below hR g (Nat.le_refl _); have hS := chain hS g; clear g)
  have HA := Lib.hid hA
  have HRk := Lib.hid hR
  have HS := Lib.hid hS
  clear hA hR hS
  go_loopw [7] (fun t wr => ∃ i : Nat, i ≤ nR ∧ t = .int .i64 (i : Int) ∧ Below u4.heap.size u4 wr) (fun t _ => nR - (intOf t).toNat)
  case atStart => exact ⟨0, Nat.zero_le _, rfl, Below.refl _ _⟩
  case round =>
    obtain ⟨i, hi, rfl, belo⟩ := hrel
    by_cases hlt : i < nR
    · have hti : (i : Int) < (nR : Int) := by omega
      obtain ⟨wo, hwo⟩ : ∃ wo : World, wo = wr := ⟨_, rfl⟩
      subst hwo
      have BO := Lib.hid belo
      obtain ⟨J, hJ⟩ : ∃ J, J = ahN M i i := ⟨_, rfl⟩
      have hJl : J.length ≤ i := by rw [hJ]; exact ahN_len M i i
      have HJ := Lib.hid hJ
      clear belo hJ
      go_wp2_with fail
      go_loopw [8, 9] (fun x y wr => ∃ k m : Nat, k ≤ i ∧ y = .int .i64 (k : Int) ∧ x = .int .i64 (m : Int) ∧ Hid (m = (ahN M i k).length) ∧ m ≤ k ∧ Below u4.heap.size u4 wr) (fun _ y _ => i - (intOf y).toNat)
      case atStart => exact ⟨0, 0, Nat.zero_le _, rfl, rfl, Lib.hid rfl, Nat.le_refl _, BO.out⟩
      case round =>
        obtain ⟨k, m, hk, rfl, rfl, HM, hmk, belr⟩ := hrel
        by_cases hlk : k < i
        · have bs := chain HS.out belr
          obtain ⟨b, off, hao, hb, s0, s1⟩ := rdl_cells (HRD.out.below bs (Nat.le_refl _)).row k (by rw [HRD.out.len, ← HN.out]; omega)
          obtain ⟨b', off', hao', -, y0, y1⟩ := rdl_cells (HRD.out.below bs (Nat.le_refl _)).row i (by rw [HRD.out.len, ← HN.out]; omega)
          rw [hao] at hao'
          cases hao'
          subst hao
          have PRX := fun W (g : Below wr.heap.size wr W) => PR0.out i hlt k (by omega) W (chain bs g)
          rw [PCL.out i hlt k (by omega)] at PRX
          obtain ⟨R, hRr⟩ : ∃ R, R = clN M i k := ⟨_, rfl⟩
          rw [← hRr] at PRX
          have HRr := Lib.hid hRr
          obtain ⟨pk, hpk⟩ : ∃ p, p = p1.getD k wv0 := ⟨_, rfl⟩
          obtain ⟨pi, hpi⟩ : ∃ p, p = p1.getD i wv0 := ⟨_, rfl⟩
          rw [← hpk] at s0 s1 PRX
          rw [← hpi] at y0 y1 PRX
          have PRI := Lib.hid PRX
          have hki : (k : Int) < (i : Int) := by omega
          have hkN : (k : Int) < (nR : Int) := by omega
          have hkN2 : k < nR := by omega
          have HST := Lib.hid (ahN_succ M i k)
          have BR := Lib.hid belr
          clear hRr hpk hpi PRX bs belr
          cases R with
          | false =>
            have HM' := Lib.hid (show m = (ahN M i (k + 1)).length by rw [HST.out, ← HRr.out, HM.out]; simp)
            go_wp2_with fail
            refine g_start (by kernel_rfl) ?_
            refine g_take (i := 0) (d := (some 75)) (v := ?_) rfl rfl (by kernel_rfl) (fun _ _ _ h => h) (by rfl) (fun w' hb' => ?_) ?_
            rotate_left
            · (try go_simp); (try with_reducible rfl)
            try simp only [Act.put, List.setIfInBounds_toArray, List.set_cons_zero, List.set_cons_succ]
            refine g_take (i := 1) (d := (some 76)) (v := ?_) rfl rfl (by kernel_rfl) (fun _ _ _ h => h) (by rfl) (fun w' hb' => ?_) ?_
            rotate_left
            · (try go_simp); (try with_reducible rfl)
            try simp only [Act.put, List.setIfInBounds_toArray, List.set_cons_zero, List.set_cons_succ]
            refine g_take (i := 2) (d := (some 77)) (v := ?_) rfl rfl (by kernel_rfl) (fun _ _ _ h => h) (by rfl) (fun w' hb' => ?_) ?_
            rotate_left
            · (try go_simp); (try with_reducible rfl)
            try simp only [Act.put, List.setIfInBounds_toArray, List.set_cons_zero, List.set_cons_succ]
            refine g_take (i := 3) (d := (some 78)) (v := ?_) rfl rfl (by kernel_rfl) (fun _ _ _ h => h) (by rfl) (fun w' hb' => ?_) ?_
            rotate_left
            · have z0 := (hb'.cell (p := ⟨b, off + k * 2, none⟩) hb).trans s0; have z1 := (hb'.cell (p := ⟨b, off + k * 2 + 1, none⟩) hb).trans s1; (try go_simp); (try with_reducible rfl)
            try simp only [Act.put, List.setIfInBounds_toArray, List.set_cons_zero, List.set_cons_succ]
            refine g_take (i := 4) (d := (some 79)) (v := ?_) rfl rfl (by kernel_rfl) (fun _ _ _ h => h) (by rfl) (fun w' hb' => ?_) ?_
            rotate_left
            · (try go_simp); (try with_reducible rfl)
            try simp only [Act.put, List.setIfInBounds_toArray, List.set_cons_zero, List.set_cons_succ]
            refine g_take (i := 5) (d := (some 80)) (v := ?_) rfl rfl (by kernel_rfl) (fun _ _ _ h => h) (by rfl) (fun w' hb' => ?_) ?_
            rotate_left
            · (try go_simp); (try with_reducible rfl)
            try simp only [Act.put, List.setIfInBounds_toArray, List.set_cons_zero, List.set_cons_succ]
            refine g_take (i := 6) (d := (some 81)) (v := ?_) rfl rfl (by kernel_rfl) (fun _ _ _ h => h) (by rfl) (fun w' hb' => ?_) ?_
            rotate_left
            · (try go_simp); (try with_reducible rfl)
            try simp only [Act.put, List.setIfInBounds_toArray, List.set_cons_zero, List.set_cons_succ]
            refine g_take (i := 7) (d := (some 82)) (v := ?_) rfl rfl (by kernel_rfl) (fun _ _ _ h => h) (by rfl) (fun w' hb' => ?_) ?_
            rotate_left
            · have z0 := (hb'.cell (p := ⟨b, off + i * 2, none⟩) hb).trans y0; have z1 := (hb'.cell (p := ⟨b, off + i * 2 + 1, none⟩) hb).trans y1; (try go_simp); (try with_reducible rfl)
            try simp only [Act.put, List.setIfInBounds_toArray, List.set_cons_zero, List.set_cons_succ]
            refine g_run (i := 8) rfl (by kernel_rfl) (by rfl) (fun K hK => ?_)
            go_simp; refine (PRI.out _ (Below.drew (Below.refl _ _))).mono ?_; rintro e w2 ⟨rfl, g⟩; have gg := Below.trans (Below.drew (Below.refl wr.heap.size wr)) g; refine hK _ _ ⟨g, ?_⟩; clear hK K g
            try simp only [Act.put, List.setIfInBounds_toArray, List.set_cons_zero, List.set_cons_succ]
            refine g_done (by kernel_rfl) ?_
            go_wp2_with fail
            exact ⟨⟨k + 1, m, by omega, by push_cast; rfl, rfl, HM', by omega, chain BR.out gg⟩, by simp [intOf]; omega⟩
          | true =>
            have HM' := Lib.hid (show m + 1 = (ahN M i (k + 1)).length by rw [HST.out, ← HRr.out, HM.out]; simp)
            have hat := ahN_at hlk HRr.out.symm
            rw [← HJ.out, ← HM.out] at hat
            obtain ⟨hmJ, hJm⟩ := List.getElem?_eq_some_iff.1 hat
            obtain ⟨bA, offA, tA, cA, rfl, lA, x0, hrow⟩ := HA.out.cell i (by rw [ahL_len]; exact hlt)
            rw [ahL_get M hlt, ← HJ.out] at x0 hrow
            obtain ⟨bJ, offJ, rfl, lJ, x1⟩ := RdI.cell hrow m hmJ
            rw [hJm] at x1
            have HX0 := Lib.hid x0
            have HX1 := Lib.hid x1
            have hmJi : (m : Int) < (J.length : Int) := by omega
            have dmJ : decide ((J.length : Int) ≤ (m : Int)) = false := decide_eq_false (by omega)
            have dmJ2 : decide (J.length ≤ m) = false := decide_eq_false (by omega)
            clear x0 x1 hrow hat hJm
            go_wp2_with fail
            refine g_start (by kernel_rfl) ?_
            refine g_take (i := 0) (d := (some 75)) (v := ?_) rfl rfl (by kernel_rfl) (fun _ _ _ h => h) (by rfl) (fun w' hb' => ?_) ?_
            rotate_left
            · (try go_simp); (try with_reducible rfl)
            try simp only [Act.put, List.setIfInBounds_toArray, List.set_cons_zero, List.set_cons_succ]
            refine g_take (i := 1) (d := (some 76)) (v := ?_) rfl rfl (by kernel_rfl) (fun _ _ _ h => h) (by rfl) (fun w' hb' => ?_) ?_
            rotate_left
            · (try go_simp); (try with_reducible rfl)
            try simp only [Act.put, List.setIfInBounds_toArray, List.set_cons_zero, List.set_cons_succ]
            refine g_take (i := 2) (d := (some 77)) (v := ?_) rfl rfl (by kernel_rfl) (fun _ _ _ h => h) (by rfl) (fun w' hb' => ?_) ?_
            rotate_left
            · (try go_simp); (try with_reducible rfl)
            try simp only [Act.put, List.setIfInBounds_toArray, List.set_cons_zero, List.set_cons_succ]
            refine g_take (i := 3) (d := (some 78)) (v := ?_) rfl rfl (by kernel_rfl) (fun _ _ _ h => h) (by rfl) (fun w' hb' => ?_) ?_
            rotate_left
            · have z0 := (hb'.cell (p := ⟨b, off + k * 2, none⟩) hb).trans s0; have z1 := (hb'.cell (p := ⟨b, off + k * 2 + 1, none⟩) hb).trans s1; (try go_simp); (try with_reducible rfl)
            try simp only [Act.put, List.setIfInBounds_toArray, List.set_cons_zero, List.set_cons_succ]
            refine g_take (i := 4) (d := (some 79)) (v := ?_) rfl rfl (by kernel_rfl) (fun _ _ _ h => h) (by rfl) (fun w' hb' => ?_) ?_
            rotate_left
            · (try go_simp); (try with_reducible rfl)
            try simp only [Act.put, List.setIfInBounds_toArray, List.set_cons_zero, List.set_cons_succ]
            refine g_take (i := 5) (d := (some 80)) (v := ?_) rfl rfl (by kernel_rfl) (fun _ _ _ h => h) (by rfl) (fun w' hb' => ?_) ?_
            rotate_left
            · (try go_simp); (try with_reducible rfl)
            try simp only [Act.put, List.setIfInBounds_toArray, List.set_cons_zero, List.set_cons_succ]
            refine g_take (i := 6) (d := (some 81)) (v := ?_) rfl rfl (by kernel_rfl) (fun _ _ _ h => h) (by rfl) (fun w' hb' => ?_) ?_
            rotate_left
            · (try go_simp); (try with_reducible rfl)
            try simp only [Act.put, List.setIfInBounds_toArray, List.set_cons_zero, List.set_cons_succ]
            refine g_take (i := 7) (d := (some 82)) (v := ?_) rfl rfl (by kernel_rfl) (fun _ _ _ h => h) (by rfl) (fun w' hb' => ?_) ?_
            rotate_left
            · have z0 := (hb'.cell (p := ⟨b, off + i * 2, none⟩) hb).trans y0; have z1 := (hb'.cell (p := ⟨b, off + i * 2 + 1, none⟩) hb).trans y1; (try go_simp); (try with_reducible rfl)
            try simp only [Act.put, List.setIfInBounds_toArray, List.set_cons_zero, List.set_cons_succ]
            refine g_run (i := 8) rfl (by kernel_rfl) (by rfl) (fun K hK => ?_)
            go_simp; refine (PRI.out _ (Below.drew (Below.refl _ _))).mono ?_; rintro e w2 ⟨rfl, g⟩; have gg := Below.trans (Below.drew (Below.refl wr.heap.size wr)) g; refine hK _ _ ⟨g, ?_⟩; clear hK K g
            try simp only [Act.put, List.setIfInBounds_toArray, List.set_cons_zero, List.set_cons_succ]
            refine g_done (by kernel_rfl) ?_
            have g4 := chain BR.out gg
            have x0 := (g4.cell (p := ⟨bA, offA + i, none⟩) lA).trans HX0.out
            have x1 := (g4.cell (p := ⟨bJ, offJ + m, none⟩) lJ).trans HX1.out
            have G4 := Lib.hid g4
            clear gg g4
            go_wp2_with fail
            exact ⟨⟨k + 1, m + 1, by omega, by push_cast; rfl, by push_cast; rfl, HM', by omega, G4.out⟩, by simp [intOf]; omega⟩
        · obtain rfl : k = i := by omega
          rw [← HJ.out] at HM
          have e9 := HM.out
          subst e9
          obtain ⟨bA, offA, tA, cAA, rfl, lA0, cA, -⟩ := HA.out.cell k (by rw [ahL_len]; exact hlt)
          rw [ahL_get M hlt, ← HJ.out] at cA
          obtain ⟨bR, offR, rfl, lR0, cR⟩ := RdI.cell HRk.out k (by rw [rkN_len]; exact hlt)
          have cA := (belr.cell (p := ⟨bA, offA + k, none⟩) lA0).trans cA
          have cR := (belr.cell (p := ⟨bR, offR + k, none⟩) lR0).trans cR
          have lA := Nat.lt_of_lt_of_le lA0 belr.size
          have lR := Nat.lt_of_lt_of_le lR0 belr.size
          have RKX := fun W (g : Below wr.heap.size wr W) => RK0.out k hlt W (chain (chain HS.out belr) g)
          have e8 : (rkN M nR).getD k 0 = (rkN M nR)[k]'(by rw [rkN_len]; exact hlt) := by simp [List.getD, rkN_len, hlt]
          obtain ⟨r, hr⟩ : ∃ r, r = (rkN M nR)[k]'(by rw [rkN_len]; exact hlt) := ⟨_, rfl⟩
          rw [e8, ← hr] at RKX
          rw [← hr] at cR
          have RK := Lib.hid RKX
          have BR := Lib.hid belr
          clear e8 hr RKX belr
          go_wp2_with fail
          refine g_start (by kernel_rfl) ?_
          refine g_take (i := 0) (d := (some 104)) (v := ?_) rfl rfl (by kernel_rfl) (fun _ _ _ h => h) (by rfl) (fun w' hb' => ?_) ?_
          rotate_left
          · (try go_simp); (try with_reducible rfl)
          try simp only [Act.put, List.setIfInBounds_toArray, List.set_cons_zero, List.set_cons_succ]
          refine g_take (i := 1) (d := (some 105)) (v := ?_) rfl rfl (by kernel_rfl) (fun _ _ _ h => h) (by rfl) (fun w' hb' => ?_) ?_
          rotate_left
          · (try go_simp); (try with_reducible rfl)
          try simp only [Act.put, List.setIfInBounds_toArray, List.set_cons_zero, List.set_cons_succ]
          refine g_take (i := 2) (d := (some 106)) (v := ?_) rfl rfl (by kernel_rfl) (fun _ _ _ h => h) (by rfl) (fun w' hb' => ?_) ?_
          rotate_left
          · (try go_simp); (try with_reducible rfl)
          try simp only [Act.put, List.setIfInBounds_toArray, List.set_cons_zero, List.set_cons_succ]
          refine g_take (i := 3) (d := (some 107)) (v := ?_) rfl rfl (by kernel_rfl) (fun _ _ _ h => h) (by rfl) (fun w' hb' => ?_) ?_
          rotate_left
          · (try go_simp); (try with_reducible rfl)
          try simp only [Act.put, List.setIfInBounds_toArray, List.set_cons_zero, List.set_cons_succ]
          refine g_take (i := 4) (d := (some 108)) (v := ?_) rfl rfl (by kernel_rfl) (fun _ _ _ h => h) (by rfl) (fun w' hb' => ?_) ?_
          rotate_left
          · have z := (hb'.cell (p := ⟨bA, offA + k, none⟩) lA).trans cA; (try go_simp); (try with_reducible rfl)
          try simp only [Act.put, List.setIfInBounds_toArray, List.set_cons_zero, List.set_cons_succ]
          refine g_take (i := 5) (d := (some 109)) (v := ?_) rfl rfl (by kernel_rfl) (fun _ _ _ h => h) (by rfl) (fun w' hb' => ?_) ?_
          rotate_left
          · (try go_simp); (try with_reducible rfl)
          try simp only [Act.put, List.setIfInBounds_toArray, List.set_cons_zero, List.set_cons_succ]
          refine g_take (i := 6) (d := (some 110)) (v := ?_) rfl rfl (by kernel_rfl) (fun _ _ _ h => h) (by rfl) (fun w' hb' => ?_) ?_
          rotate_left
          · (try go_simp); (try with_reducible rfl)
          try simp only [Act.put, List.setIfInBounds_toArray, List.set_cons_zero, List.set_cons_succ]
          refine g_take (i := 7) (d := (some 111)) (v := ?_) rfl rfl (by kernel_rfl) (fun _ _ _ h => h) (by rfl) (fun w' hb' => ?_) ?_
          rotate_left
          · (try go_simp); (try with_reducible rfl)
          try simp only [Act.put, List.setIfInBounds_toArray, List.set_cons_zero, List.set_cons_succ]
          refine g_take (i := 8) (d := (some 112)) (v := ?_) rfl rfl (by kernel_rfl) (fun _ _ _ h => h) (by rfl) (fun w' hb' => ?_) ?_
          rotate_left
          · (try go_simp); (try with_reducible rfl)
          try simp only [Act.put, List.setIfInBounds_toArray, List.set_cons_zero, List.set_cons_succ]
          refine g_take (i := 9) (d := (some 113)) (v := ?_) rfl rfl (by kernel_rfl) (fun _ _ _ h => h) (by rfl) (fun w' hb' => ?_) ?_
          rotate_left
          · (try go_simp); (try with_reducible rfl)
          try simp only [Act.put, List.setIfInBounds_toArray, List.set_cons_zero, List.set_cons_succ]
          refine g_take (i := 10) (d := (some 114)) (v := ?_) rfl rfl (by kernel_rfl) (fun _ _ _ h => h) (by rfl) (fun w' hb' => ?_) ?_
          rotate_left
          · (try go_simp); (try with_reducible rfl)
          try simp only [Act.put, List.setIfInBounds_toArray, List.set_cons_zero, List.set_cons_succ]
          refine g_take (i := 11) (d := (some 115)) (v := ?_) rfl rfl (by kernel_rfl) (fun _ _ _ h => h) (by rfl) (fun w' hb' => ?_) ?_
          rotate_left
          · have z := (hb'.cell (p := ⟨bR, offR + k, none⟩) lR).trans cR; (try go_simp); (try with_reducible rfl)
          try simp only [Act.put, List.setIfInBounds_toArray, List.set_cons_zero, List.set_cons_succ]
          refine g_take (i := 12) (d := (some 116)) (v := ?_) rfl rfl (by kernel_rfl) (fun _ _ _ h => h) (by rfl) (fun w' hb' => ?_) ?_
          rotate_left
          · (try go_simp); (try with_reducible rfl)
          try simp only [Act.put, List.setIfInBounds_toArray, List.set_cons_zero, List.set_cons_succ]
          refine g_take (i := 13) (d := (some 117)) (v := ?_) rfl rfl (by kernel_rfl) (fun _ _ _ h => h) (by rfl) (fun w' hb' => ?_) ?_
          rotate_left
          · (try go_simp); (try with_reducible rfl)
          try simp only [Act.put, List.setIfInBounds_toArray, List.set_cons_zero, List.set_cons_succ]
          refine g_run (i := 14) rfl (by kernel_rfl) (by rfl) (fun K hK => ?_)
          go_simp; refine (RK.out _ (Below.drew (Below.refl _ _))).mono ?_; rintro e w2 ⟨rfl, g⟩; have gg := Below.trans (Below.drew (Below.refl wr.heap.size wr)) g; refine hK _ _ ⟨g, ?_⟩; clear hK K g
          try simp only [Act.put, List.setIfInBounds_toArray, List.set_cons_zero, List.set_cons_succ]
          refine g_take (i := 15) (d := (some 119)) (v := ?_) rfl rfl (by kernel_rfl) (fun _ _ _ h => h) (by rfl) (fun w' hb' => ?_) ?_
          rotate_left
          · (try go_simp); (try with_reducible rfl)
          try simp only [Act.put, List.setIfInBounds_toArray, List.set_cons_zero, List.set_cons_succ]
          refine g_take (i := 16) (d := (some 120)) (v := ?_) rfl rfl (by kernel_rfl) (fun _ _ _ h => h) (by rfl) (fun w' hb' => ?_) ?_
          rotate_left
          · (try go_simp); (try with_reducible rfl)
          try simp only [Act.put, List.setIfInBounds_toArray, List.set_cons_zero, List.set_cons_succ]
          refine g_done (by kernel_rfl) ?_
          go_wp2_with fail
          exact ⟨⟨k + 1, by omega, by push_cast; rfl, chain BR.out gg⟩, by simp [intOf]; omega⟩
    · obtain rfl : i = nR := by omega
      have hS := chain HS.out belo
      go_wp2_with ((with_reducible refine (AW.out _ hS).mono ?_); rintro e w1 ⟨rfl, g⟩; have hS := chain hS g; clear g)
      go_ret
      exact ⟨rfl, chain BW.out hS⟩
end Go.Proofs.YtjmfiekgpoonjaaDoor
