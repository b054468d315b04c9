/- Locks: the document's Whole and Keeps, where they say yes. Written by wip/tools/gen24h.py. -/
import Derived.Test.YtjmfiekgpoonjaaDoorQLGC29
namespace Go.Proofs.YtjmfiekgpoonjaaDoor
open Go Go.RowKit
set_option linter.unusedVariables false
set_option linter.unusedSimpArgs false
set_option maxRecDepth 100000 in
set_option maxHeartbeats 1000000 in
theorem whole_yes (vO : Value) (E : List Nat) (N : Nat) (w : World) (hO : RdI w vO E) (hl : E.length = N) (h64 : N ≤ 64) (h1 : ∀ x, x < N → (E.filter fun y => y == x).length = 1) :
    Calls Tryd.prog 33 #[vO, .int .i64 (N : Int)] w fun e w' => e = .returned (.bool true) ∧ Below w.heap.size w w' := by
  obtain ⟨aO, cO, rfl, hc1, hc2, hr⟩ := hO.open
  rw [hl] at hr hc1 ⊢
  have HR := Lib.hid hr
  have HL := Lib.hid hl
  have H1 := Lib.hid h1
  have hNN : ((N : Int) == (N : Int)) = true := by simp
  clear hO hr hl h1
  go_enter Tryd.func33, Tryd.ntmps33
  go_wp2_with fail
  go_loopw [5] (fun t wr => ∃ k : Nat, k ≤ N ∧ t = .int .i64 (k : Int) ∧ Below w.heap.size w wr) (fun t _ => N - (intOf t).toNat)
  case atStart => exact ⟨0, Nat.zero_le _, rfl, Below.refl _ _⟩
  case round =>
    obtain ⟨k, hk, rfl, bel⟩ := hrel
    by_cases hlt : k < N
    · have hkN : (k : Int) < (N : Int) := by omega
      have HB := Lib.hid bel
      clear bel
      go_wp2_with fail
      go_loopw [6, 7] (fun s t wq => ∃ (i c : Nat), i ≤ N ∧ c ≤ i ∧ t = .int .i64 (i : Int) ∧ s = .int .i64 (c : Int) ∧ Hid (c = ((E.take i).filter fun y => y == k).length) ∧ Below w.heap.size w wq) (fun _ t _ => N - (intOf t).toNat)
      case atStart => exact ⟨0, 0, Nat.zero_le _, Nat.le_refl _, rfl, rfl, Lib.hid rfl, HB.out⟩
      case round =>
        obtain ⟨i, c, hi, hci, rfl, rfl, HC, bel⟩ := hrel
        by_cases hlt2 : i < N
        · have hiN : (i : Int) < (N : Int) := by omega
          obtain ⟨bO, oO, rfl, lO, cI⟩ := RdI.cell HR.out i (by rw [HL.out]; exact hlt2)
          have cI := (bel.cell (p := ⟨bO, oO + i, none⟩) lO).trans cI
          have HST := Lib.hid (filt_snoc (fun y => y == k) E i (by rw [HL.out]; exact hlt2))
          obtain ⟨x, hx⟩ : ∃ x, x = E[i]'(by rw [HL.out]; exact hlt2) := ⟨_, rfl⟩
          rw [← hx] at cI HST
          clear hx
          by_cases he : x = k
          · have d0 : ((x : Int) == (k : Int)) = true := by rw [he]; simp
            have HC' := Lib.hid (show c + 1 = ((E.take (i + 1)).filter fun y => y == k).length by rw [HST.out, if_pos (by rw [he]; simp), List.length_append, ← HC.out]; rfl)
            clear he
            go_wp2_with fail
            exact ⟨⟨i + 1, c + 1, by omega, by omega, by push_cast; rfl, by push_cast; rfl, HC', bel⟩, by simp [intOf]; omega⟩
          · have d0 : ((x : Int) == (k : Int)) = false := by rw [beq_eq_false_iff_ne]; omega
            have HC' := Lib.hid (show c = ((E.take (i + 1)).filter fun y => y == k).length by rw [HST.out, if_neg (by simpa using he), ← HC.out])
            clear he
            go_wp2_with fail
            exact ⟨⟨i + 1, c, by omega, by omega, by push_cast; rfl, rfl, HC', bel⟩, by simp [intOf]; omega⟩
        · obtain rfl : i = N := by omega
          have hc : c = 1 := by rw [HC.out, List.take_of_length_le (by rw [HL.out]; omega)]; exact H1.out k hlt
          subst hc
          go_wp2_with fail
          exact ⟨⟨k + 1, by omega, by push_cast; rfl, bel⟩, by simp [intOf]; omega⟩
    · obtain rfl : k = N := by omega
      go_wp2_with fail
      go_ret
      exact ⟨rfl, bel⟩
set_option maxRecDepth 100000 in
set_option maxHeartbeats 4000000 in
theorem keeps_yes (vl : Value) (ps : List WV) (L : List Wt) (vO : Value) (E : List Nat) (w : World) (tab : TabAt w) (h : RdL w vl ps L) (hz : SzL L) (hall : allB L = true) (hO : RdI w vO E) (he64 : E.length ≤ 64)
    (hin : ∀ i, i < E.length → E.getD i 0 < L.length) (hord : ∀ x y, x < y → y < E.length → E.getD y 0 < E.getD x 0 → clN L (E.getD y 0) (E.getD x 0) = false) :
    Calls Tryd.prog 34 #[vl, vO] w fun e w' => e = .returned (.bool true) ∧ Below w.heap.size w w' := by
  obtain ⟨ao, cap, rfl, hc1, hc2, hr⟩ := h.open
  obtain ⟨aO, cO, rfl, hO1, hO2, hrO⟩ := hO.open
  have h64 : L.length ≤ 64 := by unfold allB at hall; rw [Bool.and_eq_true, decide_eq_true_eq] at hall; exact hall.1
  have HRD := Lib.hid hr
  have HRO := Lib.hid hrO
  have HIN := Lib.hid hin
  have HORD := Lib.hid hord
  have PR0 := Lib.hid (fun n (hn : n < L.length) k (hk : k < L.length) W (g : Below w.heap.size w W) => rpair_any (.slice (ps.getD k wv0).a1 (ps.getD k wv0).n1 (ps.getD k wv0).c1) (.slice (ps.getD k wv0).a2 (ps.getD k wv0).n2 (ps.getD k wv0).c2) (.slice (ps.getD n wv0).a1 (ps.getD n wv0).n1 (ps.getD n wv0).c1) (.slice (ps.getD n wv0).a2 (ps.getD n wv0).n2 (ps.getD n wv0).c2) (L.getD k wt0) (L.getD n wt0) W (tab.below g) ((hr.el k hk).below g).1 ((hr.el k hk).below g).2 ((hr.el n hn).below g).1 ((hr.el n hn).below g).2 (hz k hk) (hz n hn))
  have PCL := Lib.hid (fun n (hn : n < L.length) k (hk : k < L.length) => pair_cl hall hn hk)
  obtain ⟨n, hn⟩ : ∃ n, n = E.length := ⟨_, rfl⟩
  rw [← hn] at hO1 he64 ⊢
  have HN := Lib.hid hn
  clear h hr hO hrO hz tab hall hin hord hn
  go_enter Tryd.func34, Tryd.ntmps34
  go_wp2_with fail
  go_loopw [5] (fun t wr => ∃ i : Nat, i ≤ n ∧ t = .int .i64 (i : Int) ∧ Below w.heap.size w wr) (fun t _ => n - (intOf t).toNat)
  case atStart => exact ⟨0, Nat.zero_le _, rfl, Below.refl _ _⟩
  case round =>
    obtain ⟨i, hi, rfl, bel⟩ := hrel
    by_cases hlt : i < n
    · have hiN : (i : Int) < (n : Int) := by omega
      have HB := Lib.hid bel
      clear bel
      go_wp2_with fail
      go_loopw [6] (fun t wr => ∃ k : Nat, i < k ∧ k ≤ n ∧ t = .int .i64 (k : Int) ∧ Below w.heap.size w wr) (fun t _ => n - (intOf t).toNat)
      case atStart => exact ⟨i + 1, by omega, by omega, by push_cast; rfl, HB.out⟩
      case round =>
        obtain ⟨k, hik, hk, rfl, bel⟩ := hrel
        by_cases hlt2 : k < n
        · have hkN : (k : Int) < (n : Int) := by omega
          obtain ⟨bO, oO, rfl, lO0, cI0⟩ := rdi_getD HRO.out i (by rw [← HN.out]; exact hlt)
          obtain ⟨_, _, e9, -, cK0⟩ := rdi_getD HRO.out k (by rw [← HN.out]; exact hlt2)
          cases e9
          have cI := (bel.cell (p := ⟨bO, oO + i, none⟩) lO0).trans cI0
          have cK := (bel.cell (p := ⟨bO, oO + k, none⟩) lO0).trans cK0
          have lO := Nat.lt_of_lt_of_le lO0 bel.size
          have hx1 := HIN.out i (by rw [← HN.out]; exact hlt)
          have hy1 := HIN.out k (by rw [← HN.out]; exact hlt2)
          have hor := HORD.out i k hik (by rw [← HN.out]; exact hlt2)
          obtain ⟨x, hx⟩ : ∃ x, x = E.getD i 0 := ⟨_, rfl⟩
          obtain ⟨y, hy⟩ : ∃ y, y = E.getD k 0 := ⟨_, rfl⟩
          rw [← hx] at cI hx1 hor
          rw [← hy] at cK hy1 hor
          have hxL : (x : Int) < (L.length : Int) := by omega
          have hyL : (y : Int) < (L.length : Int) := by omega
          obtain ⟨b, off, hao, hb, s0, s1⟩ := rdl_cells (HRD.out.below bel (Nat.le_refl _)).row y (by rw [HRD.out.len]; omega)
          obtain ⟨b', off', hao', -, y0, y1⟩ := rdl_cells (HRD.out.below bel (Nat.le_refl _)).row x (by rw [HRD.out.len]; omega)
          rw [hao] at hao'
          cases hao'
          subst hao
          have PRX := fun W (g : Below wr.heap.size wr W) => PR0.out x hx1 y hy1 W (chain bel g)
          rw [PCL.out x hx1 y hy1] at PRX
          obtain ⟨pk, hpk⟩ : ∃ p, p = ps.getD y wv0 := ⟨_, rfl⟩
          obtain ⟨pi, hpi⟩ : ∃ p, p = ps.getD x wv0 := ⟨_, rfl⟩
          rw [← hpk] at s0 s1 PRX
          rw [← hpi] at y0 y1 PRX
          have HB9 := Lib.hid bel
          clear hpk hpi hx hy cI0 cK0 bel
          by_cases hyx : y < x
          · have d0 : decide ((y : Int) < (x : Int)) = true := decide_eq_true (by omega)
            rw [clN_comm, hor hyx] at PRX
            have PRI := Lib.hid PRX
            clear PRX hor
            go_wp2_with fail
            refine g_start (by kernel_rfl) ?_
            refine g_take (i := 0) (d := (some 21)) (v := ?_) rfl rfl (by kernel_rfl) (fun _ _ _ h => h) (by rfl) (fun w' hb' => ?_) ?_
            rotate_left
            · (try go_simp); (try with_reducible rfl)
            try simp only [Act.put, List.setIfInBounds_toArray, List.set_cons_zero, List.set_cons_succ]
            refine g_take (i := 1) (d := (some 22)) (v := ?_) rfl rfl (by kernel_rfl) (fun _ _ _ h => h) (by rfl) (fun w' hb' => ?_) ?_
            rotate_left
            · (try go_simp); (try with_reducible rfl)
            try simp only [Act.put, List.setIfInBounds_toArray, List.set_cons_zero, List.set_cons_succ]
            refine g_take (i := 2) (d := (some 23)) (v := ?_) rfl rfl (by kernel_rfl) (fun _ _ _ h => h) (by rfl) (fun w' hb' => ?_) ?_
            rotate_left
            · (try go_simp); (try with_reducible rfl)
            try simp only [Act.put, List.setIfInBounds_toArray, List.set_cons_zero, List.set_cons_succ]
            refine g_take (i := 3) (d := (some 24)) (v := ?_) rfl rfl (by kernel_rfl) (fun _ _ _ h => h) (by rfl) (fun w' hb' => ?_) ?_
            rotate_left
            · have z := (hb'.cell (p := ⟨bO, oO + k, none⟩) lO).trans cK; (try go_simp); (try with_reducible rfl)
            try simp only [Act.put, List.setIfInBounds_toArray, List.set_cons_zero, List.set_cons_succ]
            refine g_take (i := 4) (d := (some 25)) (v := ?_) rfl rfl (by kernel_rfl) (fun _ _ _ h => h) (by rfl) (fun w' hb' => ?_) ?_
            rotate_left
            · (try go_simp); (try with_reducible rfl)
            try simp only [Act.put, List.setIfInBounds_toArray, List.set_cons_zero, List.set_cons_succ]
            refine g_take (i := 5) (d := (some 26)) (v := ?_) rfl rfl (by kernel_rfl) (fun _ _ _ h => h) (by rfl) (fun w' hb' => ?_) ?_
            rotate_left
            · (try go_simp); (try with_reducible rfl)
            try simp only [Act.put, List.setIfInBounds_toArray, List.set_cons_zero, List.set_cons_succ]
            refine g_take (i := 6) (d := (some 27)) (v := ?_) rfl rfl (by kernel_rfl) (fun _ _ _ h => h) (by rfl) (fun w' hb' => ?_) ?_
            rotate_left
            · (try go_simp); (try with_reducible rfl)
            try simp only [Act.put, List.setIfInBounds_toArray, List.set_cons_zero, List.set_cons_succ]
            refine g_take (i := 7) (d := (some 28)) (v := ?_) rfl rfl (by kernel_rfl) (fun _ _ _ h => h) (by rfl) (fun w' hb' => ?_) ?_
            rotate_left
            · have z := (hb'.cell (p := ⟨bO, oO + i, none⟩) lO).trans cI; (try go_simp); (try with_reducible rfl)
            try simp only [Act.put, List.setIfInBounds_toArray, List.set_cons_zero, List.set_cons_succ]
            refine g_take (i := 8) (d := (some 29)) (v := ?_) rfl rfl (by kernel_rfl) (fun _ _ _ h => h) (by rfl) (fun w' hb' => ?_) ?_
            rotate_left
            · (try go_simp); (try with_reducible rfl)
            try simp only [Act.put, List.setIfInBounds_toArray, List.set_cons_zero, List.set_cons_succ]
            refine g_take (i := 9) (d := (some 30)) (v := ?_) rfl rfl (by kernel_rfl) (fun _ _ _ h => h) (by rfl) (fun w' hb' => ?_) ?_
            rotate_left
            · (try go_simp); (try with_reducible rfl)
            try simp only [Act.put, List.setIfInBounds_toArray, List.set_cons_zero, List.set_cons_succ]
            refine g_take (i := 10) (d := (some 31)) (v := ?_) rfl rfl (by kernel_rfl) (fun _ _ _ h => h) (by rfl) (fun w' hb' => ?_) ?_
            rotate_left
            · (try go_simp); (try with_reducible rfl)
            try simp only [Act.put, List.setIfInBounds_toArray, List.set_cons_zero, List.set_cons_succ]
            refine g_take (i := 11) (d := (some 32)) (v := ?_) rfl rfl (by kernel_rfl) (fun _ _ _ h => h) (by rfl) (fun w' hb' => ?_) ?_
            rotate_left
            · (try go_simp); (try with_reducible rfl)
            try simp only [Act.put, List.setIfInBounds_toArray, List.set_cons_zero, List.set_cons_succ]
            refine g_take (i := 12) (d := (some 33)) (v := ?_) rfl rfl (by kernel_rfl) (fun _ _ _ h => h) (by rfl) (fun w' hb' => ?_) ?_
            rotate_left
            · (try go_simp); (try with_reducible rfl)
            try simp only [Act.put, List.setIfInBounds_toArray, List.set_cons_zero, List.set_cons_succ]
            refine g_take (i := 13) (d := (some 34)) (v := ?_) rfl rfl (by kernel_rfl) (fun _ _ _ h => h) (by rfl) (fun w' hb' => ?_) ?_
            rotate_left
            · (try go_simp); (try with_reducible rfl)
            try simp only [Act.put, List.setIfInBounds_toArray, List.set_cons_zero, List.set_cons_succ]
            refine g_take (i := 14) (d := (some 35)) (v := ?_) rfl rfl (by kernel_rfl) (fun _ _ _ h => h) (by rfl) (fun w' hb' => ?_) ?_
            rotate_left
            · have z := (hb'.cell (p := ⟨bO, oO + k, none⟩) lO).trans cK; (try go_simp); (try with_reducible rfl)
            try simp only [Act.put, List.setIfInBounds_toArray, List.set_cons_zero, List.set_cons_succ]
            refine g_take (i := 15) (d := (some 36)) (v := ?_) rfl rfl (by kernel_rfl) (fun _ _ _ h => h) (by rfl) (fun w' hb' => ?_) ?_
            rotate_left
            · (try go_simp); (try with_reducible rfl)
            try simp only [Act.put, List.setIfInBounds_toArray, List.set_cons_zero, List.set_cons_succ]
            refine g_take (i := 16) (d := (some 37)) (v := ?_) rfl rfl (by kernel_rfl) (fun _ _ _ h => h) (by rfl) (fun w' hb' => ?_) ?_
            rotate_left
            · have z0 := (hb'.cell (p := ⟨b, off + y * 2, none⟩) hb).trans s0; have z1 := (hb'.cell (p := ⟨b, off + y * 2 + 1, none⟩) hb).trans s1; (try go_simp); (try with_reducible rfl)
            try simp only [Act.put, List.setIfInBounds_toArray, List.set_cons_zero, List.set_cons_succ]
            refine g_take (i := 17) (d := (some 38)) (v := ?_) rfl rfl (by kernel_rfl) (fun _ _ _ h => h) (by rfl) (fun w' hb' => ?_) ?_
            rotate_left
            · (try go_simp); (try with_reducible rfl)
            try simp only [Act.put, List.setIfInBounds_toArray, List.set_cons_zero, List.set_cons_succ]
            refine g_take (i := 18) (d := (some 39)) (v := ?_) rfl rfl (by kernel_rfl) (fun _ _ _ h => h) (by rfl) (fun w' hb' => ?_) ?_
            rotate_left
            · (try go_simp); (try with_reducible rfl)
            try simp only [Act.put, List.setIfInBounds_toArray, List.set_cons_zero, List.set_cons_succ]
            refine g_take (i := 19) (d := (some 40)) (v := ?_) rfl rfl (by kernel_rfl) (fun _ _ _ h => h) (by rfl) (fun w' hb' => ?_) ?_
            rotate_left
            · (try go_simp); (try with_reducible rfl)
            try simp only [Act.put, List.setIfInBounds_toArray, List.set_cons_zero, List.set_cons_succ]
            refine g_take (i := 20) (d := (some 41)) (v := ?_) rfl rfl (by kernel_rfl) (fun _ _ _ h => h) (by rfl) (fun w' hb' => ?_) ?_
            rotate_left
            · (try go_simp); (try with_reducible rfl)
            try simp only [Act.put, List.setIfInBounds_toArray, List.set_cons_zero, List.set_cons_succ]
            refine g_take (i := 21) (d := (some 42)) (v := ?_) rfl rfl (by kernel_rfl) (fun _ _ _ h => h) (by rfl) (fun w' hb' => ?_) ?_
            rotate_left
            · have z := (hb'.cell (p := ⟨bO, oO + i, none⟩) lO).trans cI; (try go_simp); (try with_reducible rfl)
            try simp only [Act.put, List.setIfInBounds_toArray, List.set_cons_zero, List.set_cons_succ]
            refine g_take (i := 22) (d := (some 43)) (v := ?_) rfl rfl (by kernel_rfl) (fun _ _ _ h => h) (by rfl) (fun w' hb' => ?_) ?_
            rotate_left
            · (try go_simp); (try with_reducible rfl)
            try simp only [Act.put, List.setIfInBounds_toArray, List.set_cons_zero, List.set_cons_succ]
            refine g_take (i := 23) (d := (some 44)) (v := ?_) rfl rfl (by kernel_rfl) (fun _ _ _ h => h) (by rfl) (fun w' hb' => ?_) ?_
            rotate_left
            · have z0 := (hb'.cell (p := ⟨b, off + x * 2, none⟩) hb).trans y0; have z1 := (hb'.cell (p := ⟨b, off + x * 2 + 1, none⟩) hb).trans y1; (try go_simp); (try with_reducible rfl)
            try simp only [Act.put, List.setIfInBounds_toArray, List.set_cons_zero, List.set_cons_succ]
            refine g_run (i := 24) rfl (by kernel_rfl) (by rfl) (fun K hK => ?_)
            go_simp; refine (PRI.out _ (Below.drew (Below.refl _ _))).mono ?_; rintro e w2 ⟨rfl, g⟩; have gg := Below.trans (Below.drew (Below.refl wr.heap.size wr)) g; refine hK _ _ ⟨g, ?_⟩; clear hK K g
            try simp only [Act.put, List.setIfInBounds_toArray, List.set_cons_zero, List.set_cons_succ]
            refine g_take (i := 25) (d := (some 46)) (v := ?_) rfl rfl (by kernel_rfl) (fun _ _ _ h => h) (by rfl) (fun w' hb' => ?_) ?_
            rotate_left
            · (try go_simp); (try with_reducible rfl)
            try simp only [Act.put, List.setIfInBounds_toArray, List.set_cons_zero, List.set_cons_succ]
            refine g_done (by kernel_rfl) ?_
            go_wp2_with fail
            exact ⟨⟨k + 1, by omega, by omega, by push_cast; rfl, chain HB9.out gg⟩, by simp [intOf]; omega⟩
          · have d0 : decide ((y : Int) < (x : Int)) = false := decide_eq_false (by omega)
            clear PRX hor
            go_wp2_with fail
            refine g_start (by kernel_rfl) ?_
            refine g_take (i := 0) (d := (some 21)) (v := ?_) rfl rfl (by kernel_rfl) (fun _ _ _ h => h) (by rfl) (fun w' hb' => ?_) ?_
            rotate_left
            · (try go_simp); (try with_reducible rfl)
            try simp only [Act.put, List.setIfInBounds_toArray, List.set_cons_zero, List.set_cons_succ]
            refine g_take (i := 1) (d := (some 22)) (v := ?_) rfl rfl (by kernel_rfl) (fun _ _ _ h => h) (by rfl) (fun w' hb' => ?_) ?_
            rotate_left
            · (try go_simp); (try with_reducible rfl)
            try simp only [Act.put, List.setIfInBounds_toArray, List.set_cons_zero, List.set_cons_succ]
            refine g_take (i := 2) (d := (some 23)) (v := ?_) rfl rfl (by kernel_rfl) (fun _ _ _ h => h) (by rfl) (fun w' hb' => ?_) ?_
            rotate_left
            · (try go_simp); (try with_reducible rfl)
            try simp only [Act.put, List.setIfInBounds_toArray, List.set_cons_zero, List.set_cons_succ]
            refine g_take (i := 3) (d := (some 24)) (v := ?_) rfl rfl (by kernel_rfl) (fun _ _ _ h => h) (by rfl) (fun w' hb' => ?_) ?_
            rotate_left
            · have z := (hb'.cell (p := ⟨bO, oO + k, none⟩) lO).trans cK; (try go_simp); (try with_reducible rfl)
            try simp only [Act.put, List.setIfInBounds_toArray, List.set_cons_zero, List.set_cons_succ]
            refine g_take (i := 4) (d := (some 25)) (v := ?_) rfl rfl (by kernel_rfl) (fun _ _ _ h => h) (by rfl) (fun w' hb' => ?_) ?_
            rotate_left
            · (try go_simp); (try with_reducible rfl)
            try simp only [Act.put, List.setIfInBounds_toArray, List.set_cons_zero, List.set_cons_succ]
            refine g_take (i := 5) (d := (some 26)) (v := ?_) rfl rfl (by kernel_rfl) (fun _ _ _ h => h) (by rfl) (fun w' hb' => ?_) ?_
            rotate_left
            · (try go_simp); (try with_reducible rfl)
            try simp only [Act.put, List.setIfInBounds_toArray, List.set_cons_zero, List.set_cons_succ]
            refine g_take (i := 6) (d := (some 27)) (v := ?_) rfl rfl (by kernel_rfl) (fun _ _ _ h => h) (by rfl) (fun w' hb' => ?_) ?_
            rotate_left
            · (try go_simp); (try with_reducible rfl)
            try simp only [Act.put, List.setIfInBounds_toArray, List.set_cons_zero, List.set_cons_succ]
            refine g_take (i := 7) (d := (some 28)) (v := ?_) rfl rfl (by kernel_rfl) (fun _ _ _ h => h) (by rfl) (fun w' hb' => ?_) ?_
            rotate_left
            · have z := (hb'.cell (p := ⟨bO, oO + i, none⟩) lO).trans cI; (try go_simp); (try with_reducible rfl)
            try simp only [Act.put, List.setIfInBounds_toArray, List.set_cons_zero, List.set_cons_succ]
            refine g_take (i := 8) (d := (some 29)) (v := ?_) rfl rfl (by kernel_rfl) (fun _ _ _ h => h) (by rfl) (fun w' hb' => ?_) ?_
            rotate_left
            · (try go_simp); (try with_reducible rfl)
            try simp only [Act.put, List.setIfInBounds_toArray, List.set_cons_zero, List.set_cons_succ]
            refine g_take (i := 9) (d := (some 30)) (v := ?_) rfl rfl (by kernel_rfl) (fun _ _ _ h => h) (by rfl) (fun w' hb' => ?_) ?_
            rotate_left
            · (try go_simp); (try with_reducible rfl)
            try simp only [Act.put, List.setIfInBounds_toArray, List.set_cons_zero, List.set_cons_succ]
            refine g_skip (i := 10) (d := (some 31)) rfl rfl (by kernel_rfl) (fun _ _ _ h => h) (by rfl) ?_
            try simp only [Act.put, List.setIfInBounds_toArray, List.set_cons_zero, List.set_cons_succ]
            refine g_skip (i := 11) (d := (some 32)) rfl rfl (by kernel_rfl) (fun _ _ _ h => h) (by rfl) ?_
            try simp only [Act.put, List.setIfInBounds_toArray, List.set_cons_zero, List.set_cons_succ]
            refine g_skip (i := 12) (d := (some 33)) rfl rfl (by kernel_rfl) (fun _ _ _ h => h) (by rfl) ?_
            try simp only [Act.put, List.setIfInBounds_toArray, List.set_cons_zero, List.set_cons_succ]
            refine g_skip (i := 13) (d := (some 34)) rfl rfl (by kernel_rfl) (fun _ _ _ h => h) (by rfl) ?_
            try simp only [Act.put, List.setIfInBounds_toArray, List.set_cons_zero, List.set_cons_succ]
            refine g_skip (i := 14) (d := (some 35)) rfl rfl (by kernel_rfl) (fun _ _ _ h => h) (by rfl) ?_
            try simp only [Act.put, List.setIfInBounds_toArray, List.set_cons_zero, List.set_cons_succ]
            refine g_skip (i := 15) (d := (some 36)) rfl rfl (by kernel_rfl) (fun _ _ _ h => h) (by rfl) ?_
            try simp only [Act.put, List.setIfInBounds_toArray, List.set_cons_zero, List.set_cons_succ]
            refine g_skip (i := 16) (d := (some 37)) rfl rfl (by kernel_rfl) (fun _ _ _ h => h) (by rfl) ?_
            try simp only [Act.put, List.setIfInBounds_toArray, List.set_cons_zero, List.set_cons_succ]
            refine g_skip (i := 17) (d := (some 38)) rfl rfl (by kernel_rfl) (fun _ _ _ h => h) (by rfl) ?_
            try simp only [Act.put, List.setIfInBounds_toArray, List.set_cons_zero, List.set_cons_succ]
            refine g_skip (i := 18) (d := (some 39)) rfl rfl (by kernel_rfl) (fun _ _ _ h => h) (by rfl) ?_
            try simp only [Act.put, List.setIfInBounds_toArray, List.set_cons_zero, List.set_cons_succ]
            refine g_skip (i := 19) (d := (some 40)) rfl rfl (by kernel_rfl) (fun _ _ _ h => h) (by rfl) ?_
            try simp only [Act.put, List.setIfInBounds_toArray, List.set_cons_zero, List.set_cons_succ]
            refine g_skip (i := 20) (d := (some 41)) rfl rfl (by kernel_rfl) (fun _ _ _ h => h) (by rfl) ?_
            try simp only [Act.put, List.setIfInBounds_toArray, List.set_cons_zero, List.set_cons_succ]
            refine g_skip (i := 21) (d := (some 42)) rfl rfl (by kernel_rfl) (fun _ _ _ h => h) (by rfl) ?_
            try simp only [Act.put, List.setIfInBounds_toArray, List.set_cons_zero, List.set_cons_succ]
            refine g_skip (i := 22) (d := (some 43)) rfl rfl (by kernel_rfl) (fun _ _ _ h => h) (by rfl) ?_
            try simp only [Act.put, List.setIfInBounds_toArray, List.set_cons_zero, List.set_cons_succ]
            refine g_skip (i := 23) (d := (some 44)) rfl rfl (by kernel_rfl) (fun _ _ _ h => h) (by rfl) ?_
            try simp only [Act.put, List.setIfInBounds_toArray, List.set_cons_zero, List.set_cons_succ]
            refine g_skip (i := 24) (d := (some 45)) rfl rfl (by kernel_rfl) (fun _ _ _ h => h) (by rfl) ?_
            try simp only [Act.put, List.setIfInBounds_toArray, List.set_cons_zero, List.set_cons_succ]
            refine g_take (i := 25) (d := (some 46)) (v := ?_) rfl rfl (by kernel_rfl) (fun _ _ _ h => h) (by rfl) (fun w' hb' => ?_) ?_
            rotate_left
            · (try go_simp); (try with_reducible rfl)
            try simp only [Act.put, List.setIfInBounds_toArray, List.set_cons_zero, List.set_cons_succ]
            refine g_done (by kernel_rfl) ?_
            go_wp2_with fail
            exact ⟨⟨k + 1, by omega, by omega, by push_cast; rfl, HB9.out.drew⟩, by simp [intOf]; omega⟩
        · obtain rfl : k = n := by omega
          go_wp2_with fail
          exact ⟨⟨i + 1, by omega, by push_cast; rfl, bel⟩, by simp [intOf]; omega⟩
    · obtain rfl : i = n := by omega
      go_wp2_with fail
      go_ret
      exact ⟨rfl, bel⟩
end Go.Proofs.YtjmfiekgpoonjaaDoor
