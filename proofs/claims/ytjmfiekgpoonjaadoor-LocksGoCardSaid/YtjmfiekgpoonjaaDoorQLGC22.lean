/- Clash: the document's Rank. Written by wip/tools/gen23k.py. -/
import Derived.Test.YtjmfiekgpoonjaaDoorQLGC21
namespace Go.Proofs.YtjmfiekgpoonjaaDoor
open Go Go.RowKit
set_option linter.unusedVariables false
set_option linter.unusedSimpArgs false
theorem allB_may {L : List Wt} (h : allB L = true) {i : Nat} (hi : i < L.length) : mayW (L.getD i wt0) = true := by
  unfold allB at h
  rw [Bool.and_eq_true, List.all_eq_true] at h
  exact h.2 _ (mem_getD hi)
theorem pair_cl {L : List Wt} (h : allB L = true) {i j : Nat} (hi : i < L.length) (hj : j < L.length) : pairW (L.getD j wt0) (L.getD i wt0) = clN L i j := by
  unfold pairW clN
  rw [allB_may h hi, allB_may h hj, clB_comm]; rfl
theorem ahN_step (L : List Wt) (n k : Nat) : rkOf (rkN L n) (ahN L n (k + 1)) = if clN L n k = true then max (rkOf (rkN L n) (ahN L n k)) ((rkN L n).getD k 0 + 1) else rkOf (rkN L n) (ahN L n k) := by
  rw [ahN_succ]
  split
  · rw [rkOf_snoc]
  · rfl
theorem rkA_le (L : List Wt) (n k : Nat) (h : k ≤ n) : rkOf (rkN L n) (ahN L n k) ≤ n := by
  refine fold_up _ _ _ _ (Nat.zero_le _) (fun j hj => ?_)
  have hj' := ahN_lt hj
  have := rkN_le L n j (by omega)
  omega
set_option maxRecDepth 100000 in
set_option maxHeartbeats 2000000 in
theorem rank_any (v : Value) (ps : List WV) (L : List Wt) (i : Nat) (hi : i < L.length) (w : World) (tab : TabAt w) (h : RdL w v ps L) (hz : SzL L) (hall : allB L = true) :
    Calls Tryd.prog 16 #[v, .int .i64 (i : Int)] w fun e w' => e = .returned (.int .i64 ((rkN L L.length).getD i 0 : Int)) ∧ Below w.heap.size w w' := by
  obtain ⟨ao, cap, rfl, hc1, hc2, hr⟩ := h.open
  have h64 : L.length ≤ 64 := by unfold allB at hall; rw [Bool.and_eq_true, decide_eq_true_eq] at hall; exact hall.1
  have HRD := Lib.hid hr
  have PR0 := Lib.hid (fun n (hn : n < L.length) k (hk : k < L.length) W (g : Below w.heap.size w W) => rpair_any (.slice (ps.getD k wv0).a1 (ps.getD k wv0).n1 (ps.getD k wv0).c1) (.slice (ps.getD k wv0).a2 (ps.getD k wv0).n2 (ps.getD k wv0).c2) (.slice (ps.getD n wv0).a1 (ps.getD n wv0).n1 (ps.getD n wv0).c1) (.slice (ps.getD n wv0).a2 (ps.getD n wv0).n2 (ps.getD n wv0).c2) (L.getD k wt0) (L.getD n wt0) W (tab.below g) ((hr.el k hk).below g).1 ((hr.el k hk).below g).2 ((hr.el n hn).below g).1 ((hr.el n hn).below g).2 (hz k hk) (hz n hn))
  have PCL := Lib.hid (fun n (hn : n < L.length) k (hk : k < L.length) => pair_cl hall hn hk)
  have hmk0 := make_ints (i + 1) (by omega)
  have hmk : ∀ u : World, (Instr.makeSlice 34 (.int .i64 ((i : Int) + 1)) (.int .i64 ((i : Int) + 1))).run Tryd.prog u = .ok (.slice (some ⟨u.heap.size, 0, none⟩) (i + 1) (i + 1)) (u.alloc (.cells (Array.replicate (i + 1) (.int .i64 0)) 3)) := by
    intro u; have := hmk0 u; push_cast at this; exact this
  obtain ⟨Z, hZ⟩ : ∃ Z : Ending → World → Prop, Z = fun e w' => e = .returned (.int .i64 ((rkN L L.length).getD i 0 : Int)) ∧ Below w.heap.size w w' := ⟨_, rfl⟩
  rw [← hZ]
  have HZ := Lib.hid hZ
  have own0 := own_made (w := w) (n := i + 1) (base := w.heap.size) (Nat.le_refl _) (by omega)
  have b10 := (Below.refl w.heap.size w).alloc (Nat.le_refl _) (.cells (Array.replicate (i + 1) (.int .i64 0)) 3)
  have E0 : IntKind.i64.wrap ((i : Int) + 1) = (i : Int) + 1 := by rw [IntKind.wrap_i64]; omega
  have hi0 : 0 ≤ (i : Int) := by omega
  clear h hr hz tab hall hmk0 hZ
  go_enter Tryd.func16, Tryd.ntmps16
  go_wp2_with fail
  obtain ⟨W0, hW0⟩ : ∃ W, W = w.alloc (.cells (Array.replicate (i + 1) (.int .i64 0)) 3) := ⟨_, rfl⟩
  rw [← hW0] at own0 b10 ⊢
  obtain ⟨B, hB⟩ : ∃ B, B = w.heap.size := ⟨_, rfl⟩
  rw [← hB] at own0 b10 ⊢
  have HB := Lib.hid hB
  clear hW0 hmk hB E0
  go_loopw [6] (fun t wr => ∃ n : Nat, n ≤ i + 1 ∧ t = .int .i64 (n : Int) ∧ wr.ownsRow B 3 1 (.slice (some ⟨B, 0, none⟩) (i + 1) (i + 1)) (i + 1) ((rkN L n ++ List.replicate (i + 1 - n) 0).map iv) ∧ Below B w wr) (fun t _ => i + 1 - (intOf t).toNat)
  case atStart => exact ⟨0, Nat.zero_le _, rfl, own0, b10⟩
  case round =>
    obtain ⟨n, hn, rfl, hown, belr⟩ := hrel
    by_cases hlt : n ≤ i
    · have hlt' : n < i + 1 := by omega
      have hni : (n : Int) ≤ (i : Int) := by omega
      rw [rkS_start L hlt'] at hown
      have HO := Lib.hid hown
      have HBR := Lib.hid belr
      obtain ⟨wo, hwo⟩ : ∃ wo : World, wo = wr := ⟨_, rfl⟩
      subst hwo
      clear hown belr
      go_wp2_with fail
      go_loopw [7] (fun t wr => ∃ k : Nat, k ≤ n ∧ t = .int .i64 (k : Int) ∧ wr.ownsRow B 3 1 (.slice (some ⟨B, 0, none⟩) (i + 1) (i + 1)) (i + 1) ((rkS L (i + 1) n (rkOf (rkN L n) (ahN L n k))).map iv) ∧ Below B w wr) (fun t _ => n - (intOf t).toNat)
      case atStart => exact ⟨0, Nat.zero_le _, rfl, HO.out, HBR.out⟩
      case round =>
        obtain ⟨k, hk, rfl, hown, belr⟩ := hrel
        by_cases hlk : k < n
        · have belw : Below w.heap.size w wr := belr.mono (by rw [HB.out]; exact Nat.le_refl _)
          obtain ⟨b, off, hao, hb, s0, s1⟩ := rdl_cells (HRD.out.below belw (Nat.le_refl _)).row k (by rw [HRD.out.len]; omega)
          obtain ⟨b', off', hao', -, y0, y1⟩ := rdl_cells (HRD.out.below belw (Nat.le_refl _)).row n (by rw [HRD.out.len]; omega)
          rw [hao] at hao'
          cases hao'
          subst hao
          have PR1 := fun W (g : Below wr.heap.size wr W) => PR0.out n (by omega) k (by omega) W (chain belw g)
          rw [PCL.out n (by omega) k (by omega)] at PR1
          obtain ⟨R, hR⟩ : ∃ R, R = clN L n k := ⟨_, rfl⟩
          rw [← hR] at PR1
          have HR := Lib.hid hR
          obtain ⟨pk, hpk⟩ : ∃ p, p = ps.getD k wv0 := ⟨_, rfl⟩
          obtain ⟨pn, hpn⟩ : ∃ p, p = ps.getD n wv0 := ⟨_, rfl⟩
          rw [← hpk] at s0 s1 PR1
          rw [← hpn] at y0 y1 PR1
          have PR := Lib.hid PR1
          obtain ⟨r, hr⟩ : ∃ r, r = (rkN L n).getD k 0 := ⟨_, rfl⟩
          have hrl : r ≤ n := by rw [hr]; have := rkN_le L n k hlk; omega
          obtain ⟨c, hc⟩ : ∃ c, c = rkOf (rkN L n) (ahN L n k) := ⟨_, rfl⟩
          have hcl : c ≤ n := by rw [hc]; exact rkA_le L n k hk
          have HST := Lib.hid (ahN_step L n k)
          rw [← hc, ← hr, ← hR] at HST
          rw [← hc] at hown
          have cN : wr.cell? ⟨B, n, none⟩ = some (.int .i64 (c : Int)) := by rw [hown.cellAt n (by omega), List.getElem?_map, rkS_at]; rfl
          have cK : wr.cell? ⟨B, k, none⟩ = some (.int .i64 (r : Int)) := by rw [hown.cellAt k (by omega), List.getElem?_map, rkS_lt L hlk, ← hr]; rfl
          have hBl := (hown.lt B rfl).2
          have hkn : (k : Int) < (n : Int) := by omega
          have hnL : (n : Int) < (L.length : Int) := by omega
          have hkL : (k : Int) < (L.length : Int) := by omega
          have hnL2 : n < L.length := by omega
          have hkL2 : k < L.length := by omega
          have hk1 : (k : Int) < (i : Int) + 1 := by omega
          have hn1 : (n : Int) < (i : Int) + 1 := by omega
          have hk2 : k < i + 1 := by omega
          have BELR := Lib.hid belr
          clear hR hpk hpn hr hc PR1 belw belr
          cases R with
          | false =>
            have HC := Lib.hid (show rkOf (rkN L n) (ahN L n (k + 1)) = c by rw [HST.out]; simp)
            go_wp2_with fail
            refine g_start (by kernel_rfl) ?_
            refine g_take (i := 0) (d := (some 21)) (v := ?_) rfl rfl (by kernel_rfl) (fun _ _ _ h => h) (by rfl) (fun w' hb' => ?_) ?_
            rotate_left
            · (try go_simp); (try with_reducible rfl)
            try simp only [Act.put, List.setIfInBounds_toArray, List.set_cons_zero, List.set_cons_succ]
            refine g_take (i := 1) (d := (some 22)) (v := ?_) rfl rfl (by kernel_rfl) (fun _ _ _ h => h) (by rfl) (fun w' hb' => ?_) ?_
            rotate_left
            · (try go_simp); (try with_reducible rfl)
            try simp only [Act.put, List.setIfInBounds_toArray, List.set_cons_zero, List.set_cons_succ]
            refine g_take (i := 2) (d := (some 23)) (v := ?_) rfl rfl (by kernel_rfl) (fun _ _ _ h => h) (by rfl) (fun w' hb' => ?_) ?_
            rotate_left
            · (try go_simp); (try with_reducible rfl)
            try simp only [Act.put, List.setIfInBounds_toArray, List.set_cons_zero, List.set_cons_succ]
            refine g_take (i := 3) (d := (some 24)) (v := ?_) rfl rfl (by kernel_rfl) (fun _ _ _ h => h) (by rfl) (fun w' hb' => ?_) ?_
            rotate_left
            · have z0 := (hb'.cell (p := ⟨b, off + k * 2, none⟩) hb).trans s0; have z1 := (hb'.cell (p := ⟨b, off + k * 2 + 1, none⟩) hb).trans s1; (try go_simp); (try with_reducible rfl)
            try simp only [Act.put, List.setIfInBounds_toArray, List.set_cons_zero, List.set_cons_succ]
            refine g_take (i := 4) (d := (some 25)) (v := ?_) rfl rfl (by kernel_rfl) (fun _ _ _ h => h) (by rfl) (fun w' hb' => ?_) ?_
            rotate_left
            · (try go_simp); (try with_reducible rfl)
            try simp only [Act.put, List.setIfInBounds_toArray, List.set_cons_zero, List.set_cons_succ]
            refine g_take (i := 5) (d := (some 26)) (v := ?_) rfl rfl (by kernel_rfl) (fun _ _ _ h => h) (by rfl) (fun w' hb' => ?_) ?_
            rotate_left
            · (try go_simp); (try with_reducible rfl)
            try simp only [Act.put, List.setIfInBounds_toArray, List.set_cons_zero, List.set_cons_succ]
            refine g_take (i := 6) (d := (some 27)) (v := ?_) rfl rfl (by kernel_rfl) (fun _ _ _ h => h) (by rfl) (fun w' hb' => ?_) ?_
            rotate_left
            · (try go_simp); (try with_reducible rfl)
            try simp only [Act.put, List.setIfInBounds_toArray, List.set_cons_zero, List.set_cons_succ]
            refine g_take (i := 7) (d := (some 28)) (v := ?_) rfl rfl (by kernel_rfl) (fun _ _ _ h => h) (by rfl) (fun w' hb' => ?_) ?_
            rotate_left
            · have z0 := (hb'.cell (p := ⟨b, off + n * 2, none⟩) hb).trans y0; have z1 := (hb'.cell (p := ⟨b, off + n * 2 + 1, none⟩) hb).trans y1; (try go_simp); (try with_reducible rfl)
            try simp only [Act.put, List.setIfInBounds_toArray, List.set_cons_zero, List.set_cons_succ]
            refine g_run (i := 8) rfl (by kernel_rfl) (by rfl) (fun K hK => ?_)
            go_simp; refine (PR.out _ (Below.drew (Below.refl _ _))).mono ?_; rintro e w2 ⟨rfl, g⟩; have gg := Below.trans (Below.drew (Below.refl wr.heap.size wr)) g; have cK := (gg.cell (p := ⟨B, k, none⟩) hBl).trans cK; have cN := (gg.cell (p := ⟨B, n, none⟩) hBl).trans cN; have hBl := Nat.lt_of_lt_of_le hBl gg.size; refine hK _ _ ⟨g, ?_⟩; clear hK K g
            try simp only [Act.put, List.setIfInBounds_toArray, List.set_cons_zero, List.set_cons_succ]
            refine g_take (i := 9) (d := (some 30)) (v := ?_) rfl rfl (by kernel_rfl) (fun _ _ _ h => h) (by rfl) (fun w' hb' => ?_) ?_
            rotate_left
            · (try go_simp); (try with_reducible rfl)
            try simp only [Act.put, List.setIfInBounds_toArray, List.set_cons_zero, List.set_cons_succ]
            refine g_skip (i := 10) (d := (some 31)) rfl rfl (by kernel_rfl) (fun _ _ _ h => h) (by rfl) ?_
            try simp only [Act.put, List.setIfInBounds_toArray, List.set_cons_zero, List.set_cons_succ]
            refine g_skip (i := 11) (d := (some 32)) rfl rfl (by kernel_rfl) (fun _ _ _ h => h) (by rfl) ?_
            try simp only [Act.put, List.setIfInBounds_toArray, List.set_cons_zero, List.set_cons_succ]
            refine g_skip (i := 12) (d := (some 33)) rfl rfl (by kernel_rfl) (fun _ _ _ h => h) (by rfl) ?_
            try simp only [Act.put, List.setIfInBounds_toArray, List.set_cons_zero, List.set_cons_succ]
            refine g_skip (i := 13) (d := (some 34)) rfl rfl (by kernel_rfl) (fun _ _ _ h => h) (by rfl) ?_
            try simp only [Act.put, List.setIfInBounds_toArray, List.set_cons_zero, List.set_cons_succ]
            refine g_skip (i := 14) (d := (some 35)) rfl rfl (by kernel_rfl) (fun _ _ _ h => h) (by rfl) ?_
            try simp only [Act.put, List.setIfInBounds_toArray, List.set_cons_zero, List.set_cons_succ]
            refine g_skip (i := 15) (d := (some 36)) rfl rfl (by kernel_rfl) (fun _ _ _ h => h) (by rfl) ?_
            try simp only [Act.put, List.setIfInBounds_toArray, List.set_cons_zero, List.set_cons_succ]
            refine g_skip (i := 16) (d := (some 37)) rfl rfl (by kernel_rfl) (fun _ _ _ h => h) (by rfl) ?_
            try simp only [Act.put, List.setIfInBounds_toArray, List.set_cons_zero, List.set_cons_succ]
            refine g_skip (i := 17) (d := (some 38)) rfl rfl (by kernel_rfl) (fun _ _ _ h => h) (by rfl) ?_
            try simp only [Act.put, List.setIfInBounds_toArray, List.set_cons_zero, List.set_cons_succ]
            refine g_skip (i := 18) (d := (some 39)) rfl rfl (by kernel_rfl) (fun _ _ _ h => h) (by rfl) ?_
            try simp only [Act.put, List.setIfInBounds_toArray, List.set_cons_zero, List.set_cons_succ]
            refine g_take (i := 19) (d := (some 40)) (v := ?_) rfl rfl (by kernel_rfl) (fun _ _ _ h => h) (by rfl) (fun w' hb' => ?_) ?_
            rotate_left
            · (try go_simp); (try with_reducible rfl)
            try simp only [Act.put, List.setIfInBounds_toArray, List.set_cons_zero, List.set_cons_succ]
            refine g_done (by kernel_rfl) ?_
            go_wp2_with fail
            exact ⟨⟨k + 1, by omega, by push_cast; rfl, by rw [HC.out]; exact own_keep hown gg, BELR.out.trans (gg.mono (by have := BELR.out.size; rw [HB.out]; exact this))⟩, by simp [intOf]; omega⟩
          | true =>
            by_cases hcr : c ≤ r
            · have hcri : (c : Int) ≤ (r : Int) := by omega
              have HC := Lib.hid (show rkOf (rkN L n) (ahN L n (k + 1)) = r + 1 by rw [HST.out]; simp; omega)
              have E1 : IntKind.i64.wrap ((r : Int) + 1) = (r : Int) + 1 := by rw [IntKind.wrap_i64]; omega
              go_wp2_with fail
              refine g_start (by kernel_rfl) ?_
              refine g_take (i := 0) (d := (some 21)) (v := ?_) rfl rfl (by kernel_rfl) (fun _ _ _ h => h) (by rfl) (fun w' hb' => ?_) ?_
              rotate_left
              · (try go_simp); (try with_reducible rfl)
              try simp only [Act.put, List.setIfInBounds_toArray, List.set_cons_zero, List.set_cons_succ]
              refine g_take (i := 1) (d := (some 22)) (v := ?_) rfl rfl (by kernel_rfl) (fun _ _ _ h => h) (by rfl) (fun w' hb' => ?_) ?_
              rotate_left
              · (try go_simp); (try with_reducible rfl)
              try simp only [Act.put, List.setIfInBounds_toArray, List.set_cons_zero, List.set_cons_succ]
              refine g_take (i := 2) (d := (some 23)) (v := ?_) rfl rfl (by kernel_rfl) (fun _ _ _ h => h) (by rfl) (fun w' hb' => ?_) ?_
              rotate_left
              · (try go_simp); (try with_reducible rfl)
              try simp only [Act.put, List.setIfInBounds_toArray, List.set_cons_zero, List.set_cons_succ]
              refine g_take (i := 3) (d := (some 24)) (v := ?_) rfl rfl (by kernel_rfl) (fun _ _ _ h => h) (by rfl) (fun w' hb' => ?_) ?_
              rotate_left
              · have z0 := (hb'.cell (p := ⟨b, off + k * 2, none⟩) hb).trans s0; have z1 := (hb'.cell (p := ⟨b, off + k * 2 + 1, none⟩) hb).trans s1; (try go_simp); (try with_reducible rfl)
              try simp only [Act.put, List.setIfInBounds_toArray, List.set_cons_zero, List.set_cons_succ]
              refine g_take (i := 4) (d := (some 25)) (v := ?_) rfl rfl (by kernel_rfl) (fun _ _ _ h => h) (by rfl) (fun w' hb' => ?_) ?_
              rotate_left
              · (try go_simp); (try with_reducible rfl)
              try simp only [Act.put, List.setIfInBounds_toArray, List.set_cons_zero, List.set_cons_succ]
              refine g_take (i := 5) (d := (some 26)) (v := ?_) rfl rfl (by kernel_rfl) (fun _ _ _ h => h) (by rfl) (fun w' hb' => ?_) ?_
              rotate_left
              · (try go_simp); (try with_reducible rfl)
              try simp only [Act.put, List.setIfInBounds_toArray, List.set_cons_zero, List.set_cons_succ]
              refine g_take (i := 6) (d := (some 27)) (v := ?_) rfl rfl (by kernel_rfl) (fun _ _ _ h => h) (by rfl) (fun w' hb' => ?_) ?_
              rotate_left
              · (try go_simp); (try with_reducible rfl)
              try simp only [Act.put, List.setIfInBounds_toArray, List.set_cons_zero, List.set_cons_succ]
              refine g_take (i := 7) (d := (some 28)) (v := ?_) rfl rfl (by kernel_rfl) (fun _ _ _ h => h) (by rfl) (fun w' hb' => ?_) ?_
              rotate_left
              · have z0 := (hb'.cell (p := ⟨b, off + n * 2, none⟩) hb).trans y0; have z1 := (hb'.cell (p := ⟨b, off + n * 2 + 1, none⟩) hb).trans y1; (try go_simp); (try with_reducible rfl)
              try simp only [Act.put, List.setIfInBounds_toArray, List.set_cons_zero, List.set_cons_succ]
              refine g_run (i := 8) rfl (by kernel_rfl) (by rfl) (fun K hK => ?_)
              go_simp; refine (PR.out _ (Below.drew (Below.refl _ _))).mono ?_; rintro e w2 ⟨rfl, g⟩; have gg := Below.trans (Below.drew (Below.refl wr.heap.size wr)) g; have cK := (gg.cell (p := ⟨B, k, none⟩) hBl).trans cK; have cN := (gg.cell (p := ⟨B, n, none⟩) hBl).trans cN; have hBl := Nat.lt_of_lt_of_le hBl gg.size; refine hK _ _ ⟨g, ?_⟩; clear hK K g
              try simp only [Act.put, List.setIfInBounds_toArray, List.set_cons_zero, List.set_cons_succ]
              refine g_take (i := 9) (d := (some 30)) (v := ?_) rfl rfl (by kernel_rfl) (fun _ _ _ h => h) (by rfl) (fun w' hb' => ?_) ?_
              rotate_left
              · (try go_simp); (try with_reducible rfl)
              try simp only [Act.put, List.setIfInBounds_toArray, List.set_cons_zero, List.set_cons_succ]
              refine g_take (i := 10) (d := (some 31)) (v := ?_) rfl rfl (by kernel_rfl) (fun _ _ _ h => h) (by rfl) (fun w' hb' => ?_) ?_
              rotate_left
              · (try go_simp); (try with_reducible rfl)
              try simp only [Act.put, List.setIfInBounds_toArray, List.set_cons_zero, List.set_cons_succ]
              refine g_take (i := 11) (d := (some 32)) (v := ?_) rfl rfl (by kernel_rfl) (fun _ _ _ h => h) (by rfl) (fun w' hb' => ?_) ?_
              rotate_left
              · (try go_simp); (try with_reducible rfl)
              try simp only [Act.put, List.setIfInBounds_toArray, List.set_cons_zero, List.set_cons_succ]
              refine g_take (i := 12) (d := (some 33)) (v := ?_) rfl rfl (by kernel_rfl) (fun _ _ _ h => h) (by rfl) (fun w' hb' => ?_) ?_
              rotate_left
              · (try go_simp); (try with_reducible rfl)
              try simp only [Act.put, List.setIfInBounds_toArray, List.set_cons_zero, List.set_cons_succ]
              refine g_take (i := 13) (d := (some 34)) (v := ?_) rfl rfl (by kernel_rfl) (fun _ _ _ h => h) (by rfl) (fun w' hb' => ?_) ?_
              rotate_left
              · have z := (hb'.cell (p := ⟨B, k, none⟩) hBl).trans cK; (try go_simp); (try with_reducible rfl)
              try simp only [Act.put, List.setIfInBounds_toArray, List.set_cons_zero, List.set_cons_succ]
              refine g_take (i := 14) (d := (some 35)) (v := ?_) rfl rfl (by kernel_rfl) (fun _ _ _ h => h) (by rfl) (fun w' hb' => ?_) ?_
              rotate_left
              · (try go_simp); (try with_reducible rfl)
              try simp only [Act.put, List.setIfInBounds_toArray, List.set_cons_zero, List.set_cons_succ]
              refine g_take (i := 15) (d := (some 36)) (v := ?_) rfl rfl (by kernel_rfl) (fun _ _ _ h => h) (by rfl) (fun w' hb' => ?_) ?_
              rotate_left
              · (try go_simp); (try with_reducible rfl)
              try simp only [Act.put, List.setIfInBounds_toArray, List.set_cons_zero, List.set_cons_succ]
              refine g_take (i := 16) (d := (some 37)) (v := ?_) rfl rfl (by kernel_rfl) (fun _ _ _ h => h) (by rfl) (fun w' hb' => ?_) ?_
              rotate_left
              · (try go_simp); (try with_reducible rfl)
              try simp only [Act.put, List.setIfInBounds_toArray, List.set_cons_zero, List.set_cons_succ]
              refine g_take (i := 17) (d := (some 38)) (v := ?_) rfl rfl (by kernel_rfl) (fun _ _ _ h => h) (by rfl) (fun w' hb' => ?_) ?_
              rotate_left
              · have z := (hb'.cell (p := ⟨B, n, none⟩) hBl).trans cN; (try go_simp); (try with_reducible rfl)
              try simp only [Act.put, List.setIfInBounds_toArray, List.set_cons_zero, List.set_cons_succ]
              refine g_take (i := 18) (d := (some 39)) (v := ?_) rfl rfl (by kernel_rfl) (fun _ _ _ h => h) (by rfl) (fun w' hb' => ?_) ?_
              rotate_left
              · (try go_simp); (try with_reducible rfl)
              try simp only [Act.put, List.setIfInBounds_toArray, List.set_cons_zero, List.set_cons_succ]
              refine g_take (i := 19) (d := (some 40)) (v := ?_) rfl rfl (by kernel_rfl) (fun _ _ _ h => h) (by rfl) (fun w' hb' => ?_) ?_
              rotate_left
              · (try go_simp); (try with_reducible rfl)
              try simp only [Act.put, List.setIfInBounds_toArray, List.set_cons_zero, List.set_cons_succ]
              refine g_done (by kernel_rfl) ?_
              have own2 := own_keep hown gg
              obtain ⟨own3, gr3⟩ := own2.stored n (.int .i64 ((r : Int) + 1))
              have b3 := (BELR.out.trans (gg.mono (by have := BELR.out.size; rw [HB.out]; exact this))).setCell (p := ⟨B, n, none⟩) (Nat.le_refl _) (.int .i64 ((r : Int) + 1))
              have fN := own2.frozenAt n
              have OWN3 := Lib.hid (show (w2.setCell ⟨B, n, none⟩ (.int .i64 ((r : Int) + 1))).ownsRow B 3 1 (.slice (some ⟨B, 0, none⟩) (i + 1) (i + 1)) (i + 1) ((rkS L (i + 1) n (rkOf (rkN L n) (ahN L n (k + 1)))).map iv) by
                rw [HC.out, ← rkS_set L (c := c), List.map_set]
                exact own3)
              clear own3 gr3 own2 hown
              go_wp2_with fail
              exact ⟨⟨k + 1, by omega, by push_cast; rfl, OWN3.out, b3⟩, by simp [intOf]; omega⟩
            · have hcri : (r : Int) < (c : Int) := by omega
              have HC := Lib.hid (show rkOf (rkN L n) (ahN L n (k + 1)) = c by rw [HST.out]; simp; omega)
              go_wp2_with fail
              refine g_start (by kernel_rfl) ?_
              refine g_take (i := 0) (d := (some 21)) (v := ?_) rfl rfl (by kernel_rfl) (fun _ _ _ h => h) (by rfl) (fun w' hb' => ?_) ?_
              rotate_left
              · (try go_simp); (try with_reducible rfl)
              try simp only [Act.put, List.setIfInBounds_toArray, List.set_cons_zero, List.set_cons_succ]
              refine g_take (i := 1) (d := (some 22)) (v := ?_) rfl rfl (by kernel_rfl) (fun _ _ _ h => h) (by rfl) (fun w' hb' => ?_) ?_
              rotate_left
              · (try go_simp); (try with_reducible rfl)
              try simp only [Act.put, List.setIfInBounds_toArray, List.set_cons_zero, List.set_cons_succ]
              refine g_take (i := 2) (d := (some 23)) (v := ?_) rfl rfl (by kernel_rfl) (fun _ _ _ h => h) (by rfl) (fun w' hb' => ?_) ?_
              rotate_left
              · (try go_simp); (try with_reducible rfl)
              try simp only [Act.put, List.setIfInBounds_toArray, List.set_cons_zero, List.set_cons_succ]
              refine g_take (i := 3) (d := (some 24)) (v := ?_) rfl rfl (by kernel_rfl) (fun _ _ _ h => h) (by rfl) (fun w' hb' => ?_) ?_
              rotate_left
              · have z0 := (hb'.cell (p := ⟨b, off + k * 2, none⟩) hb).trans s0; have z1 := (hb'.cell (p := ⟨b, off + k * 2 + 1, none⟩) hb).trans s1; (try go_simp); (try with_reducible rfl)
              try simp only [Act.put, List.setIfInBounds_toArray, List.set_cons_zero, List.set_cons_succ]
              refine g_take (i := 4) (d := (some 25)) (v := ?_) rfl rfl (by kernel_rfl) (fun _ _ _ h => h) (by rfl) (fun w' hb' => ?_) ?_
              rotate_left
              · (try go_simp); (try with_reducible rfl)
              try simp only [Act.put, List.setIfInBounds_toArray, List.set_cons_zero, List.set_cons_succ]
              refine g_take (i := 5) (d := (some 26)) (v := ?_) rfl rfl (by kernel_rfl) (fun _ _ _ h => h) (by rfl) (fun w' hb' => ?_) ?_
              rotate_left
              · (try go_simp); (try with_reducible rfl)
              try simp only [Act.put, List.setIfInBounds_toArray, List.set_cons_zero, List.set_cons_succ]
              refine g_take (i := 6) (d := (some 27)) (v := ?_) rfl rfl (by kernel_rfl) (fun _ _ _ h => h) (by rfl) (fun w' hb' => ?_) ?_
              rotate_left
              · (try go_simp); (try with_reducible rfl)
              try simp only [Act.put, List.setIfInBounds_toArray, List.set_cons_zero, List.set_cons_succ]
              refine g_take (i := 7) (d := (some 28)) (v := ?_) rfl rfl (by kernel_rfl) (fun _ _ _ h => h) (by rfl) (fun w' hb' => ?_) ?_
              rotate_left
              · have z0 := (hb'.cell (p := ⟨b, off + n * 2, none⟩) hb).trans y0; have z1 := (hb'.cell (p := ⟨b, off + n * 2 + 1, none⟩) hb).trans y1; (try go_simp); (try with_reducible rfl)
              try simp only [Act.put, List.setIfInBounds_toArray, List.set_cons_zero, List.set_cons_succ]
              refine g_run (i := 8) rfl (by kernel_rfl) (by rfl) (fun K hK => ?_)
              go_simp; refine (PR.out _ (Below.drew (Below.refl _ _))).mono ?_; rintro e w2 ⟨rfl, g⟩; have gg := Below.trans (Below.drew (Below.refl wr.heap.size wr)) g; have cK := (gg.cell (p := ⟨B, k, none⟩) hBl).trans cK; have cN := (gg.cell (p := ⟨B, n, none⟩) hBl).trans cN; have hBl := Nat.lt_of_lt_of_le hBl gg.size; refine hK _ _ ⟨g, ?_⟩; clear hK K g
              try simp only [Act.put, List.setIfInBounds_toArray, List.set_cons_zero, List.set_cons_succ]
              refine g_take (i := 9) (d := (some 30)) (v := ?_) rfl rfl (by kernel_rfl) (fun _ _ _ h => h) (by rfl) (fun w' hb' => ?_) ?_
              rotate_left
              · (try go_simp); (try with_reducible rfl)
              try simp only [Act.put, List.setIfInBounds_toArray, List.set_cons_zero, List.set_cons_succ]
              refine g_take (i := 10) (d := (some 31)) (v := ?_) rfl rfl (by kernel_rfl) (fun _ _ _ h => h) (by rfl) (fun w' hb' => ?_) ?_
              rotate_left
              · (try go_simp); (try with_reducible rfl)
              try simp only [Act.put, List.setIfInBounds_toArray, List.set_cons_zero, List.set_cons_succ]
              refine g_take (i := 11) (d := (some 32)) (v := ?_) rfl rfl (by kernel_rfl) (fun _ _ _ h => h) (by rfl) (fun w' hb' => ?_) ?_
              rotate_left
              · (try go_simp); (try with_reducible rfl)
              try simp only [Act.put, List.setIfInBounds_toArray, List.set_cons_zero, List.set_cons_succ]
              refine g_take (i := 12) (d := (some 33)) (v := ?_) rfl rfl (by kernel_rfl) (fun _ _ _ h => h) (by rfl) (fun w' hb' => ?_) ?_
              rotate_left
              · (try go_simp); (try with_reducible rfl)
              try simp only [Act.put, List.setIfInBounds_toArray, List.set_cons_zero, List.set_cons_succ]
              refine g_take (i := 13) (d := (some 34)) (v := ?_) rfl rfl (by kernel_rfl) (fun _ _ _ h => h) (by rfl) (fun w' hb' => ?_) ?_
              rotate_left
              · have z := (hb'.cell (p := ⟨B, k, none⟩) hBl).trans cK; (try go_simp); (try with_reducible rfl)
              try simp only [Act.put, List.setIfInBounds_toArray, List.set_cons_zero, List.set_cons_succ]
              refine g_take (i := 14) (d := (some 35)) (v := ?_) rfl rfl (by kernel_rfl) (fun _ _ _ h => h) (by rfl) (fun w' hb' => ?_) ?_
              rotate_left
              · (try go_simp); (try with_reducible rfl)
              try simp only [Act.put, List.setIfInBounds_toArray, List.set_cons_zero, List.set_cons_succ]
              refine g_take (i := 15) (d := (some 36)) (v := ?_) rfl rfl (by kernel_rfl) (fun _ _ _ h => h) (by rfl) (fun w' hb' => ?_) ?_
              rotate_left
              · (try go_simp); (try with_reducible rfl)
              try simp only [Act.put, List.setIfInBounds_toArray, List.set_cons_zero, List.set_cons_succ]
              refine g_take (i := 16) (d := (some 37)) (v := ?_) rfl rfl (by kernel_rfl) (fun _ _ _ h => h) (by rfl) (fun w' hb' => ?_) ?_
              rotate_left
              · (try go_simp); (try with_reducible rfl)
              try simp only [Act.put, List.setIfInBounds_toArray, List.set_cons_zero, List.set_cons_succ]
              refine g_take (i := 17) (d := (some 38)) (v := ?_) rfl rfl (by kernel_rfl) (fun _ _ _ h => h) (by rfl) (fun w' hb' => ?_) ?_
              rotate_left
              · have z := (hb'.cell (p := ⟨B, n, none⟩) hBl).trans cN; (try go_simp); (try with_reducible rfl)
              try simp only [Act.put, List.setIfInBounds_toArray, List.set_cons_zero, List.set_cons_succ]
              refine g_take (i := 18) (d := (some 39)) (v := ?_) rfl rfl (by kernel_rfl) (fun _ _ _ h => h) (by rfl) (fun w' hb' => ?_) ?_
              rotate_left
              · (try go_simp); (try with_reducible rfl)
              try simp only [Act.put, List.setIfInBounds_toArray, List.set_cons_zero, List.set_cons_succ]
              refine g_take (i := 19) (d := (some 40)) (v := ?_) rfl rfl (by kernel_rfl) (fun _ _ _ h => h) (by rfl) (fun w' hb' => ?_) ?_
              rotate_left
              · (try go_simp); (try with_reducible rfl)
              try simp only [Act.put, List.setIfInBounds_toArray, List.set_cons_zero, List.set_cons_succ]
              refine g_done (by kernel_rfl) ?_
              go_wp2_with fail
              exact ⟨⟨k + 1, by omega, by push_cast; rfl, by rw [HC.out]; exact own_keep hown gg, BELR.out.trans (gg.mono (by have := BELR.out.size; rw [HB.out]; exact this))⟩, by simp [intOf]; omega⟩
        · obtain rfl : k = n := by omega
          have OWN2 := Lib.hid (show wr.ownsRow B 3 1 (.slice (some ⟨B, 0, none⟩) (i + 1) (i + 1)) (i + 1) ((rkN L (k + 1) ++ List.replicate (i + 1 - (k + 1)) 0).map iv) by
            rw [← rkS_next L hlt']
            exact hown)
          clear hown
          go_wp2_with fail
          exact ⟨⟨k + 1, by omega, by push_cast; rfl, OWN2.out, belr⟩, by simp [intOf]; omega⟩
    · obtain rfl : n = i + 1 := by omega
      have hni : ¬ ((i + 1 : Nat) : Int) ≤ (i : Int) := by omega
      rw [Nat.sub_self, List.replicate_zero, List.append_nil] at hown
      have cI : wr.cell? ⟨B, i, none⟩ = some (.int .i64 ((rkN L L.length).getD i 0 : Int)) := by
        have hl : i < (rkN L (i + 1)).length := by rw [rkN_len]; omega
        rw [hown.cellAt i (by omega), List.getElem?_map, List.getElem?_eq_getElem hl]
        have e : (rkN L (i + 1))[i] = (rkN L L.length).getD i 0 := by
          rw [rkN_get L L.length i hi, ← rkN_get L (i + 1) i (by omega)]; simp [List.getD, hl]
        rw [e]; rfl
      have OWN2 := Lib.hid hown
      have hii : (i : Int) < (i : Int) + 1 := by omega
      have hii2 : i < i + 1 := by omega
      clear hown
      go_wp2_with fail
      show Z (.returned _) _
      rw [HZ.out]
      exact ⟨rfl, belr.mono (by rw [HB.out]; exact Nat.le_refl _)⟩
end Go.Proofs.YtjmfiekgpoonjaaDoor
