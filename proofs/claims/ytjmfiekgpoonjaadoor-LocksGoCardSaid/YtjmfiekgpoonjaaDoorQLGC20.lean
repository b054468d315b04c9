/- Clash: Ranks. Written by wip/tools/gen23i.py. -/
import Derived.Test.YtjmfiekgpoonjaaDoorQLGC19
import Derived.Laws.OwnMore
namespace Go.Proofs.YtjmfiekgpoonjaaDoor
open Go Go.RowKit
set_option linter.unusedVariables false
set_option linter.unusedSimpArgs false
/-- 'make([]int, n)'. -/
theorem make_ints (n : Nat) (hn : n ≤ 100) (u : World) : (Instr.makeSlice 34 (.int .i64 (n : Int)) (.int .i64 (n : Int))).run Tryd.prog u = .ok (.slice (some ⟨u.heap.size, 0, none⟩) n n) (u.alloc (.cells (Array.replicate n (.int .i64 0)) 3)) := by
  obtain ⟨i0, hi, hz0, hz1, hz2⟩ := info_parts intinfo
  have h := run_make (P := Tryd.prog) u 34 3 i0 (.int .i64 0) Tryd.underlying34 hi hz0 .i64 .i64 (n : Int) (n : Int) (by omega) (by omega) (by rw [hz2]; omega) (by omega)
  rw [hz1] at h
  simp only [Int.toNat_natCast, Nat.mul_one, Value.cells] at h
  rw [made_one] at h
  exact h
theorem own_made {w : World} {n base : Nat} (hb : base ≤ w.heap.size) (hn : n ≤ 100) : (w.alloc (.cells (Array.replicate n (.int .i64 0)) 3)).ownsRow base 3 1 (.slice (some ⟨w.heap.size, 0, none⟩) n n) n ((List.replicate n 0).map iv) := by
  refine ⟨by simp, .inr ⟨w.heap.size, n, _, rfl, hb, heap_alloc_new _ _, Nat.le_refl _, by unfold maxLen; omega, by simp, ?_⟩⟩
  rw [Array.toList_replicate, List.map_replicate, Nat.mul_one, List.take_of_length_le (by simp)]
  rfl
/-- The ranks when the n-th stands at c. -/
def rkS (L : List Wt) (N n c : Nat) : List Nat := rkN L n ++ c :: List.replicate (N - n - 1) 0
theorem rkS_len (L : List Wt) {N n c : Nat} (h : n < N) : (rkS L N n c).length = N := by unfold rkS; rw [List.length_append, rkN_len, List.length_cons, List.length_replicate]; omega
theorem rkS_at (L : List Wt) {N n c : Nat} : (rkS L N n c)[n]? = some c := by
  unfold rkS
  rw [List.getElem?_append_right (by rw [rkN_len]; exact Nat.le_refl _), rkN_len, Nat.sub_self]; rfl
theorem rkS_lt (L : List Wt) {N n c j : Nat} (h : j < n) : (rkS L N n c)[j]? = some ((rkN L n).getD j 0) := by
  unfold rkS
  have : j < (rkN L n).length := by rw [rkN_len]; exact h
  rw [List.getElem?_append_left this]
  simp [List.getD, this]
theorem rkS_set (L : List Wt) {N n c d : Nat} : (rkS L N n c).set n d = rkS L N n d := by
  unfold rkS
  have := set_mid (rkN L n) c d (List.replicate (N - n - 1) 0)
  rwa [rkN_len] at this
theorem rkS_start (L : List Wt) {N n : Nat} (h : n < N) : rkN L n ++ List.replicate (N - n) 0 = rkS L N n 0 := by
  unfold rkS
  obtain ⟨m, hm⟩ : ∃ m, N - n = m + 1 := ⟨N - n - 1, by omega⟩
  rw [hm, List.replicate_succ]; rfl
theorem rkS_next (L : List Wt) {N n : Nat} (h : n < N) : rkS L N n (rkOf (rkN L n) (ahN L n n)) = rkN L (n + 1) ++ List.replicate (N - (n + 1)) 0 := by
  unfold rkS
  rw [rkN, List.append_assoc]; rfl
theorem rkOf_le (L : List Wt) (n q : Nat) : rkOf (rkN L n) ((ahN L n n).take q) ≤ n := by
  refine fold_up _ _ _ _ (Nat.zero_le _) (fun j hj => ?_)
  have hj' := ahN_lt (List.mem_of_mem_take hj)
  have := rkN_le L n j hj'
  omega
def GivesR (w : World) (l : List Nat) (e : Ending) (w' : World) : Prop := ∃ a n c, e = .returned (.tuple #[.slice a n c, .int .i64 0]) ∧ RdV w' (.slice a n c) (l.map iv) ∧ Below w.heap.size w w'
theorem RdR.open {w : World} {a : Option Addr} {n c : Nat} {ls : List (List Nat)} (h : RdR w (.slice a n c) ls) : n = ls.length ∧ n ≤ c ∧ c ≤ 9223372036854775807 := by
  obtain ⟨vs, ⟨ao, cap, h1, h2, h3, -, -⟩, h5, h6⟩ := h
  cases h1
  exact ⟨h5, h2, by unfold maxLen at h3; omega⟩
theorem RdR.cell {w : World} {a : Option Addr} {n c : Nat} {ls : List (List Nat)} (h : RdR w (.slice a n c) ls) (t : Nat) (ht : t < ls.length) :
    ∃ b off ta tc, a = some ⟨b, off, none⟩ ∧ b < w.heap.size ∧ w.cell? ⟨b, off + t, none⟩ = some (.slice ta (ls.getD t []).length tc) ∧ RdV w (.slice ta (ls.getD t []).length tc) ((ls.getD t []).map iv) := by
  obtain ⟨vs, ⟨ao, cap, h1, h2, h3, h4, h7⟩, h5, h6⟩ := h
  cases h1
  obtain ⟨b, off, e, hb, hc⟩ := h7 (by omega)
  obtain ⟨⟨ta, tn, tc, e2⟩, h8⟩ := h6 t ht
  have e3 : tn = (ls.getD t []).length := by
    rw [e2] at h8
    obtain ⟨ao', cap', g1, -⟩ := h8
    cases g1; simp
  subst e3
  refine ⟨b, off, ta, tc, e, hb, ?_, by rw [← e2]; exact h8⟩
  rw [hc t (by omega), ← e2]
  have : t < vs.length := by omega
  simp [List.getD, this]
theorem RdV.icell {w : World} {a : Option Addr} {n c : Nat} {l : List Nat} (h : RdV w (.slice a n c) (l.map iv)) (t : Nat) (ht : t < l.length) :
    ∃ b off, a = some ⟨b, off, none⟩ ∧ b < w.heap.size ∧ w.cell? ⟨b, off + t, none⟩ = some (.int .i64 (l[t] : Int)) := by
  obtain ⟨ao, cap, h1, h2, h3, h4, h5⟩ := h
  cases h1
  obtain ⟨b, off, e, hb, hc⟩ := h5 (by rw [List.length_map]; omega)
  refine ⟨b, off, e, hb, ?_⟩
  rw [hc t (by rw [List.length_map]; exact ht), List.getElem?_map, List.getElem?_eq_getElem ht]; rfl
set_option maxRecDepth 100000 in
theorem ranks_no (v : Value) (ps : List WV) (L : List Wt) (w : World) (tab : TabAt w) (h : RdL w v ps L) (hz : SzL L) (hall : allB L = false) :
    Calls Tryd.prog 14 #[v] w fun e w' => e = .returned (.tuple #[.slice none 0 0, .int .i64 1]) ∧ Below w.heap.size w w' := by
  have H := Lib.hid (aheadF_no v ps L w tab h hz hall)
  clear hall h hz tab
  go_enter Tryd.func14, Tryd.ntmps14
  go_wp2_with ((with_reducible refine (H.out).mono ?_); rintro e w1 ⟨rfl, g⟩)
  go_ret2
  exact ⟨rfl, g⟩
set_option maxRecDepth 100000 in
set_option maxHeartbeats 1000000 in
theorem ranks_yes (v : Value) (ps : List WV) (L : List Wt) (w : World) (tab : TabAt w) (h : RdL w v ps L) (hz : SzL L) (hall : allB L = true) :
    Calls Tryd.prog 14 #[v] w (GivesR w (rkN L L.length)) := by
  obtain ⟨ao, cap, rfl, hc1, hc2, hr⟩ := h.open
  have h64 : L.length ≤ 64 := by unfold allB at hall; rw [Bool.and_eq_true, decide_eq_true_eq] at hall; exact hall.1
  have H0 := aheadF_yes (.slice ao L.length cap) ps L w tab hr hz hall
  obtain ⟨N, hN⟩ : ∃ N, N = L.length := ⟨_, rfl⟩
  rw [← hN] at H0 h64 ⊢
  have H := Lib.hid H0
  have hmk := make_ints N (by omega)
  obtain ⟨Z, hZ⟩ : ∃ Z, Z = GivesR w (rkN L N) := ⟨_, rfl⟩
  rw [← hZ]
  have HZ := Lib.hid hZ
  clear hall h hz tab hr H0 hN hZ
  go_enter Tryd.func14, Tryd.ntmps14
  go_wp2_with fail
  refine H.out.mono ?_
  rintro e w1 ⟨a1, n1, k1, rfl, hA, g⟩
  obtain ⟨hn1, hk1, hk2⟩ := hA.open
  rw [ahL_len] at hn1
  subst hn1
  have HA := Lib.hid hA
  have bel := g.alloc g.size (.cells (Array.replicate n1 (.int .i64 0)) 3)
  have own0 := own_made (w := w1) (n := n1) (base := w1.heap.size) (Nat.le_refl _) (by omega)
  have b10 := (Below.refl w1.heap.size w1).alloc (Nat.le_refl _) (.cells (Array.replicate n1 (.int .i64 0)) 3)
  have BG := Lib.hid g
  clear hA g
  go_wp2_with fail
  obtain ⟨W0, hW0⟩ : ∃ W, W = w1.alloc (.cells (Array.replicate n1 (.int .i64 0)) 3) := ⟨_, rfl⟩
  rw [← hW0] at own0 b10 bel ⊢
  obtain ⟨B, hB⟩ : ∃ B, B = w1.heap.size := ⟨_, rfl⟩
  rw [← hB] at own0 b10 ⊢
  have HB := Lib.hid hB
  clear hW0 hmk hB
  go_loopw [24] (fun t wr => ∃ i : Nat, i ≤ n1 ∧ t = .int .i64 (i : Int) ∧ wr.ownsRow B 3 1 (.slice (some ⟨B, 0, none⟩) n1 n1) n1 ((rkN L i ++ List.replicate (n1 - i) 0).map iv) ∧ Below B w1 wr) (fun t _ => n1 - (intOf t).toNat)
  case atStart => exact ⟨0, Nat.zero_le _, rfl, own0, b10⟩
  case round =>
    obtain ⟨i, hi, rfl, hown, belr⟩ := hrel
    by_cases hlt : i < n1
    · obtain ⟨b, off, ta, tc, rfl, hb, c0, hrow⟩ := HA.out.cell i (by rw [ahL_len]; exact hlt)
      have c0 := (belr.cell (p := ⟨b, off + i, none⟩) (by rw [HB.out]; exact hb)).trans c0
      rw [ahL_get L hlt] at c0 hrow
      have hti : (i : Int) < (n1 : Int) := by omega
      obtain ⟨J, hJ⟩ : ∃ J, J = ahN L i i := ⟨_, rfl⟩
      rw [← hJ] at c0 hrow
      have hJl : J.length ≤ 64 := by rw [hJ]; have := ahN_len L i i; omega
      have HJ := Lib.hid hJ
      have HR := Lib.hid hrow
      obtain ⟨wo, hwo⟩ : ∃ wo : World, wo = wr := ⟨_, rfl⟩
      subst hwo
      rw [rkS_start L hlt] at hown
      have HO := Lib.hid hown
      have hBo := belr.size
      have HBR := Lib.hid belr
      clear hJ hrow hown belr
      go_wp2_with fail
      clear c0
      go_loopw [31] (fun t wr => ∃ q : Nat, q ≤ J.length ∧ t = .int .i64 (q : Int) ∧ wr.ownsRow B 3 1 (.slice (some ⟨B, 0, none⟩) n1 n1) n1 ((rkS L n1 i (rkOf (rkN L i) (J.take q))).map iv) ∧ Below B w1 wr ∧ wo.heap.size ≤ wr.heap.size) (fun t _ => J.length - (intOf t).toNat)
      case atStart => exact ⟨0, Nat.zero_le _, rfl, HO.out, HBR.out, Nat.le_refl _⟩
      case round =>
        obtain ⟨q, hq, rfl, hown, belr, hso⟩ := hrel
        by_cases hlq : q < J.length
        · obtain ⟨b2, off2, rfl, hb2, d0⟩ := (RdV.below HR.out belr (by rw [HB.out]; exact Nat.le_refl _)).icell q hlq
          obtain ⟨j, hj⟩ : ∃ j, j = J[q] := ⟨_, rfl⟩
          rw [← hj] at d0
          have hji : j < i := by rw [hj]; exact ahN_lt (n := i) (L := L) (by rw [← HJ.out]; exact List.getElem_mem _)
          obtain ⟨r, hr⟩ : ∃ r, r = (rkN L i).getD j 0 := ⟨_, rfl⟩
          have hrl : r ≤ i := by rw [hr]; have := rkN_le L i j hji; omega
          obtain ⟨c, hc⟩ : ∃ c, c = rkOf (rkN L i) (J.take q) := ⟨_, rfl⟩
          have hcl : c ≤ i := by rw [hc, HJ.out]; exact rkOf_le L i q
          rw [← hc] at hown
          have HC := Lib.hid (show rkOf (rkN L i) (J.take (q + 1)) = max c (r + 1) by rw [List.take_succ_eq_append_getElem hlq, rkOf_snoc, ← hc, ← hj, hr])
          have cI : wr.cell? ⟨B, i, none⟩ = some (.int .i64 (c : Int)) := by rw [hown.cellAt i (by omega), List.getElem?_map, rkS_at]; rfl
          have cJ : wr.cell? ⟨B, j, none⟩ = some (.int .i64 (r : Int)) := by rw [hown.cellAt j (by omega), List.getElem?_map, rkS_lt L hji, ← hr]; rfl
          have hBl := (hown.lt B rfl).2
          have E1 : IntKind.i64.wrap ((r : Int) + 1) = ((r + 1 : Nat) : Int) := by rw [IntKind.wrap_i64]; omega
          have hqi : (q : Int) < (J.length : Int) := by omega
          have hjn : j < n1 := by omega
          have hjni : (j : Int) < (n1 : Int) := by omega
          clear hr hc hj
          go_wp2_with fail
          refine t_start 13 (by kernel_rfl) ?_
          refine t_take (i := 0) (d := (some 35)) (v := ?_) rfl rfl (by kernel_rfl) (fun _ _ _ h => h) (by rfl) (fun w' hb' => ?_) ?_
          rotate_left
          · (try go_simp); (try with_reducible rfl)
          try simp only [Act.put, List.setIfInBounds_toArray, List.set_cons_zero, List.set_cons_succ]
          refine t_take (i := 1) (d := (some 36)) (v := ?_) rfl rfl (by kernel_rfl) (fun _ _ _ h => h) (by rfl) (fun w' hb' => ?_) ?_
          rotate_left
          · (try go_simp); (try with_reducible rfl)
          try simp only [Act.put, List.setIfInBounds_toArray, List.set_cons_zero, List.set_cons_succ]
          refine t_take (i := 2) (d := (some 37)) (v := ?_) rfl rfl (by kernel_rfl) (fun _ _ _ h => h) (by rfl) (fun w' hb' => ?_) ?_
          rotate_left
          · (try go_simp); (try with_reducible rfl)
          try simp only [Act.put, List.setIfInBounds_toArray, List.set_cons_zero, List.set_cons_succ]
          refine t_take (i := 3) (d := (some 38)) (v := ?_) rfl rfl (by kernel_rfl) (fun _ _ _ h => h) (by rfl) (fun w' hb' => ?_) ?_
          rotate_left
          · (try go_simp); (try with_reducible rfl)
          try simp only [Act.put, List.setIfInBounds_toArray, List.set_cons_zero, List.set_cons_succ]
          refine t_take (i := 4) (d := (some 39)) (v := ?_) rfl rfl (by kernel_rfl) (fun _ _ _ h => h) (by rfl) (fun w' hb' => ?_) ?_
          rotate_left
          · (try go_simp); (try with_reducible rfl)
          try simp only [Act.put, List.setIfInBounds_toArray, List.set_cons_zero, List.set_cons_succ]
          refine t_take (i := 5) (d := (some 40)) (v := ?_) rfl rfl (by kernel_rfl) (fun _ _ _ h => h) (by rfl) (fun w' hb' => ?_) ?_
          rotate_left
          · have z := (hb'.cell (p := ⟨B, i, none⟩) hBl).trans cI; (try go_simp); (try with_reducible rfl)
          try simp only [Act.put, List.setIfInBounds_toArray, List.set_cons_zero, List.set_cons_succ]
          refine t_take (i := 6) (d := (some 41)) (v := ?_) rfl rfl (by kernel_rfl) (fun _ _ _ h => h) (by rfl) (fun w' hb' => ?_) ?_
          rotate_left
          · (try go_simp); (try with_reducible rfl)
          try simp only [Act.put, List.setIfInBounds_toArray, List.set_cons_zero, List.set_cons_succ]
          refine t_take (i := 7) (d := (some 42)) (v := ?_) rfl rfl (by kernel_rfl) (fun _ _ _ h => h) (by rfl) (fun w' hb' => ?_) ?_
          rotate_left
          · (try go_simp); (try with_reducible rfl)
          try simp only [Act.put, List.setIfInBounds_toArray, List.set_cons_zero, List.set_cons_succ]
          refine t_take (i := 8) (d := (some 43)) (v := ?_) rfl rfl (by kernel_rfl) (fun _ _ _ h => h) (by rfl) (fun w' hb' => ?_) ?_
          rotate_left
          · (try go_simp); (try with_reducible rfl)
          try simp only [Act.put, List.setIfInBounds_toArray, List.set_cons_zero, List.set_cons_succ]
          refine t_take (i := 9) (d := (some 44)) (v := ?_) rfl rfl (by kernel_rfl) (fun _ _ _ h => h) (by rfl) (fun w' hb' => ?_) ?_
          rotate_left
          · have z := (hb'.cell (p := ⟨B, j, none⟩) hBl).trans cJ; (try go_simp); (try with_reducible rfl)
          try simp only [Act.put, List.setIfInBounds_toArray, List.set_cons_zero, List.set_cons_succ]
          refine t_take (i := 10) (d := (some 45)) (v := ?_) rfl rfl (by kernel_rfl) (fun _ _ _ h => h) (by rfl) (fun w' hb' => ?_) ?_
          rotate_left
          · have e1 := E1; (try go_simp); (try with_reducible rfl)
          try simp only [Act.put, List.setIfInBounds_toArray, List.set_cons_zero, List.set_cons_succ]
          refine t_run (i := 11) rfl (by kernel_rfl) (by kernel_rfl) (by rfl) (fun K hK => ?_)
          go_simp; refine hK _ _ ⟨Below.refl _ _, ?_⟩; clear hK K
          try simp only [Act.put, List.setIfInBounds_toArray, List.set_cons_zero, List.set_cons_succ]
          refine t_take (i := 12) (d := (some 47)) (v := ?_) rfl rfl (by kernel_rfl) (fun _ _ _ h => h) (by rfl) (fun w' hb' => ?_) ?_
          rotate_left
          · (try go_simp); (try with_reducible rfl)
          try simp only [Act.put, List.setIfInBounds_toArray, List.set_cons_zero, List.set_cons_succ]
          refine t_last (i := 13) rfl (by kernel_rfl) (by kernel_rfl) (by kernel_rfl) (by rfl) (fun K hK => ?_)
          have z := cI; have fz := hown.frozenAt i; go_simp; refine hK _ _ ?_; clear hK K
          obtain ⟨own2, gr2⟩ := hown.stored i (.int .i64 (max (c : Int) ((r : Int) + 1)))
          have bel2 := (belr.setCell (p := ⟨B, i, none⟩) (Nat.le_refl _) (.int .i64 (max (c : Int) ((r : Int) + 1)))).drew
          have OWN2 := Lib.hid (show (wr.setCell ⟨B, i, none⟩ (.int .i64 (max (c : Int) ((r : Int) + 1)))).drew.ownsRow B 3 1 (.slice (some ⟨B, 0, none⟩) n1 n1) n1 ((rkS L n1 i (rkOf (rkN L i) (J.take (q + 1)))).map iv) by
            rw [HC.out, ← rkS_set L (c := c), List.map_set]
            have e9 : iv (max c (r + 1)) = .int .i64 (max (c : Int) ((r : Int) + 1)) := by unfold iv; congr 1; omega
            rw [e9]
            exact own2)
          clear own2 gr2 hown cI cJ
          go_wp2_with fail
          exact ⟨⟨q + 1, by omega, by push_cast; rfl, OWN2.out, bel2, by simpa using hso⟩, by simp [intOf]; omega⟩
        · obtain rfl : q = J.length := by omega
          have OWN2 := Lib.hid (show wr.ownsRow B 3 1 (.slice (some ⟨B, 0, none⟩) n1 n1) n1 ((rkN L (i + 1) ++ List.replicate (n1 - (i + 1)) 0).map iv) by
            rw [← rkS_next L hlt, ← HJ.out]
            rw [List.take_length] at hown
            exact hown)
          clear hown
          go_wp2_with fail
          exact ⟨⟨i + 1, by omega, by push_cast; rfl, OWN2.out, belr⟩, by simp [intOf]; omega⟩
    · obtain rfl : i = n1 := by omega
      rw [Nat.sub_self, List.replicate_zero, List.append_nil] at hown
      have OWN2 := Lib.hid hown
      clear hown
      go_wp2_with fail
      show Z (.returned _) _
      rw [HZ.out]
      exact ⟨_, _, _, rfl, own_rdv OWN2.out, BG.out.trans (belr.mono (by rw [HB.out]; exact BG.out.size))⟩
end Go.Proofs.YtjmfiekgpoonjaaDoor
