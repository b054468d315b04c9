/- Clash: the law ClashRanks. Written by wip/tools/gen23t.py. -/
import Derived.Test.YtjmfiekgpoonjaaDoorQCLC30
namespace Go.Proofs.YtjmfiekgpoonjaaDoor
open Go Go.RowKit
set_option linter.unusedVariables false
set_option linter.unusedSimpArgs false
/-- Of one rank, the first q from behind. -/
def grpP (r : List Nat) (n k q : Nat) : List Nat := ((List.range n).reverse.take q).filter fun i => r.getD i 0 == k
theorem rev_at {n q : Nat} (h : q < n) : (List.range n).reverse[q]'(by simpa using h) = n - 1 - q := by rw [List.getElem_reverse, List.getElem_range]; simp
theorem grpP_succ (r : List Nat) {n k q : Nat} (h : q < n) : grpP r n k (q + 1) = if r.getD (n - 1 - q) 0 = k then grpP r n k q ++ [n - 1 - q] else grpP r n k q := by
  unfold grpP
  rw [List.take_succ_eq_append_getElem (by simpa using h), List.filter_append, rev_at h]
  by_cases e : r.getD (n - 1 - q) 0 = k
  · have b : (r.getD (n - 1 - q) 0 == k) = true := by rw [beq_iff_eq]; exact e
    rw [if_pos e, List.filter_cons, if_pos b]; rfl
  · have b : ¬ (r.getD (n - 1 - q) 0 == k) = true := by rw [beq_iff_eq]; exact e
    rw [if_neg e, List.filter_cons, if_neg b, List.filter_nil, List.append_nil]
theorem grpP_all (r : List Nat) (n k : Nat) : grpP r n k n = grp r n k := by unfold grpP grp; rw [List.take_of_length_le (by simp)]
theorem grpP_len (r : List Nat) (n k q : Nat) : (grpP r n k q).length ≤ q := by
  unfold grpP
  exact Nat.le_trans (List.length_filter_le _ _) (List.length_take_le _ _)
theorem ord_le (r : List Nat) (n k : Nat) : (ordN r n k).length ≤ n := by
  rw [ord_len]
  have := List.length_filter_le (fun i => decide (r.getD i 0 < k)) (List.range n).reverse
  simpa using this
theorem swE_ok {L : List Wt} {o : List Int} (h : swB L o = true) : swE L o = 0 := by
  unfold swB at h
  rw [Bool.and_eq_true] at h
  unfold swE; rw [if_pos h.1]
theorem iv_zv (l : List Nat) : l.map iv = (l.map fun (i : Nat) => (i : Int)).map zv := by rw [List.map_map]; rfl
set_option maxRecDepth 100000 in
set_option maxHeartbeats 2000000 in
theorem lranks_no (v : Value) (ps : List WV) (L : List Wt) (w : World) (tab : TabAt w) (h : RdL w v ps L) (hz : SzL L) (hall : allB (fewLW L) = false) :
    Calls Tryd.prog 5 #[v] w fun e w' => e = .returned (.bool true) ∧ Below w.heap.size w w' := by
  obtain ⟨ao, cap, rfl, -, -, hr⟩ := h.open
  have FW := Lib.hid (fewL_any (.slice ao L.length cap) ps L w hr hz)
  obtain ⟨M, hM⟩ : ∃ M, M = fewLW L := ⟨_, rfl⟩
  have sz : SzL M := by rw [hM]; exact fewLW_sz L
  rw [← hM] at FW hall
  have bel := Below.refl w.heap.size w
  clear h hz hr hM
  go_enter Tryd.func5, Tryd.ntmps5
  go_wp2_with fail
  refine FW.out.mono ?_
  rintro e u1 ⟨v1, p1, rfl, own, g⟩
  obtain ⟨a1, c1, e1, -, -, rd⟩ := own.rd.open
  subst e1
  have t1 := tab.below g
  have bel := chain bel g
  have RN := Lib.hid (fun W (g : Below u1.heap.size u1 W) => ranks_no (.slice a1 M.length c1) p1 M W (t1.below g) (rd.below g (Nat.le_refl _)) sz hall)
  have AW := Lib.hid (fun W (g : Below u1.heap.size u1 W) => awake23_any W (t1.below g))
  have hS := Below.refl u1.heap.size u1
  clear g own rd sz t1 tab
  go_wp2_with (first | ((with_reducible refine (RN.out _ hS).mono ?_); rintro e w1 ⟨rfl, g⟩; have hS := chain hS g; clear g) | ((with_reducible refine (AW.out _ hS).mono ?_); rintro e w1 ⟨rfl, g⟩; have hS := chain hS g; clear g))
  go_ret
  exact ⟨rfl, chain bel hS⟩
set_option maxRecDepth 100000 in
set_option maxHeartbeats 4000000 in
theorem lranks_yes (v : Value) (ps : List WV) (L : List Wt) (w : World) (tab : TabAt w) (h : RdL w v ps L) (hz : SzL L) (hall : allB (fewLW L) = true) :
    Calls Tryd.prog 5 #[v] w fun e w' => e = .returned (.bool true) ∧ Below w.heap.size w w' := by
  obtain ⟨i0, hi0, hz0, hz1, hz2⟩ := info_parts intinfo
  obtain ⟨ao, cap, rfl, -, -, hr⟩ := h.open
  have FW := Lib.hid (fewL_any (.slice ao L.length cap) ps L w hr hz)
  obtain ⟨M, hM⟩ : ∃ M, M = fewLW L := ⟨_, rfl⟩
  have sz : SzL M := by rw [hM]; exact fewLW_sz L
  rw [← hM] at FW hall
  have bel := Below.refl w.heap.size w
  clear h hz hr hM
  go_enter Tryd.func5, Tryd.ntmps5
  go_wp2_with fail
  refine FW.out.mono ?_
  rintro e u1 ⟨v1, p1, rfl, own, g⟩
  obtain ⟨a1, c1, e1, hc1, hc2, rd⟩ := own.rd.open
  subst e1
  have t1 := tab.below g
  have bel := chain bel g
  have RN := Lib.hid (fun W (g : Below u1.heap.size u1 W) => ranks_yes (.slice a1 M.length c1) p1 M W (t1.below g) (rd.below g (Nat.le_refl _)) sz hall)
  have AW := Lib.hid (fun W (g : Below u1.heap.size u1 W) => awake23_any W (t1.below g))
  have PR0 := Lib.hid (fun n (hn : n < M.length) k (hk : k < M.length) W (g : Below u1.heap.size u1 W) => cpair_any (.slice (p1.getD k wv0).a1 (p1.getD k wv0).n1 (p1.getD k wv0).c1) (.slice (p1.getD k wv0).a2 (p1.getD k wv0).n2 (p1.getD k wv0).c2) (.slice (p1.getD n wv0).a1 (p1.getD n wv0).n1 (p1.getD n wv0).c1) (.slice (p1.getD n wv0).a2 (p1.getD n wv0).n2 (p1.getD n wv0).c2) (M.getD k wt0) (M.getD n wt0) W (t1.below g) ((rd.el k hk).below g).1 ((rd.el k hk).below g).2 ((rd.el n hn).below g).1 ((rd.el n hn).below g).2 (sz k hk) (sz n hn))
  have PCL := Lib.hid (fun n (hn : n < M.length) k (hk : k < M.length) => pair_cl hall hn hk)
  have SW := Lib.hid (fun vo W (g : Below u1.heap.size u1 W) (ho : RdZ W vo (ordI M)) => swap_yes (.slice a1 M.length c1) p1 M vo (ordI M) W (t1.below g) (rd.below g (Nat.le_refl _)) sz ho hall (ordI_len M))
  have h64 : M.length ≤ 64 := by unfold allB at hall; rw [Bool.and_eq_true, decide_eq_true_eq] at hall; exact hall.1
  have HRK := Lib.hid (fun i k (hi : i < M.length) (hk : k < i) (h : (rkN M M.length).getD k 0 = (rkN M M.length).getD i 0) => rank_apart hi hk h)
  have HOI := Lib.hid (show (ordN (rkN M M.length) M.length M.length).map iv = (ordI M).map zv from iv_zv _)
  rw [ord_ok M, swE_ok (ord_ok M)] at SW
  obtain ⟨N, hN⟩ : ∃ N, N = M.length := ⟨_, rfl⟩
  rw [← hN] at RN PR0 PCL h64 rd hc1 SW HRK HOI
  have HRD := Lib.hid rd
  have HN := Lib.hid hN
  have BW := Lib.hid bel
  have hS := Below.refl u1.heap.size u1
  clear g own rd sz t1 tab hall bel
  rw [← hN]
  clear hN
  go_wp2_with fail
  refine (RN.out _ hS).mono ?_
  rintro e u3 ⟨aR, nR, cR0, rfl, hR, g⟩
  obtain ⟨_, _, hn3, hk3, hk4, -⟩ := RdI.open hR
  injection hn3 with i1 i2 i3
  rw [rkN_len] at i2 hk3
  subst i2
  subst i1
  subst i3
  have hS := chain hS g
  have HRr := Lib.hid hR
  have HS := Lib.hid hS
  obtain ⟨r, hr⟩ : ∃ r, r = rkN M nR := ⟨_, rfl⟩
  have hrl : r.length = nR := by rw [hr, rkN_len]
  rw [← hr] at HRr HRK HOI
  have HRl := Lib.hid hrl
  clear g hR hS hr hrl
  go_wp2_with fail
  go_loopw [5, 6] (fun o t wr => ∃ rk : Nat, rk ≤ nR ∧ t = .int .i64 (rk : Int) ∧ wr.ownsRow u3.heap.size 3 1 o (ordN r nR rk).length ((ordN r nR rk).map iv) ∧ Below u3.heap.size u3 wr) (fun _ t _ => nR - (intOf t).toNat)
  case atStart => exact ⟨0, Nat.zero_le _, rfl, World.ownsRow_nil _ _ _ _, Below.refl _ _⟩
  case round =>
    obtain ⟨rk, hrk, rfl, hown, belo⟩ := hrel
    by_cases hlt : rk < nR
    · have hti : (rk : Int) < (nR : Int) := by omega
      obtain ⟨wo, hwo⟩ : ∃ wo : World, wo = wr := ⟨_, rfl⟩
      subst hwo
      have BO := Lib.hid belo
      have HO := Lib.hid hown
      have ol := ord_le r nR rk
      have E0 : IntKind.i64.wrap ((nR : Int) - 1) = (nR : Int) - 1 := by rw [IntKind.wrap_i64]; omega
      clear belo hown
      go_wp2_with fail
      go_loopw [5, 7] (fun o t wr => ∃ (q : Nat) (x : Int), q ≤ nR ∧ t = .int .i64 x ∧ Hid (x = (nR : Int) - 1 - (q : Int)) ∧ wr.ownsRow u3.heap.size 3 1 o (ordN r nR rk ++ grpP r nR rk q).length ((ordN r nR rk ++ grpP r nR rk q).map iv) ∧ Below u3.heap.size u3 wr) (fun _ t _ => ((intOf t) + 1).toNat)
      case atStart => exact ⟨0, _, Nat.zero_le _, rfl, Lib.hid (by omega), by rw [show grpP r nR rk 0 = [] from rfl, List.append_nil]; exact HO.out, BO.out⟩
      case round =>
        obtain ⟨q, x, hq, rfl, HX, hown, belr⟩ := hrel
        by_cases hlq : q < nR
        · obtain ⟨i, hi⟩ : ∃ i : Nat, x = (i : Int) := ⟨nR - 1 - q, by rw [HX.out]; omega⟩
          subst hi
          have hiq : i = nR - 1 - q := by have := HX.out; omega
          have hin : i < nR := by omega
          have hx0 : 0 ≤ (i : Int) := by omega
          have hini : (i : Int) < (nR : Int) := by omega
          have HQ := Lib.hid hiq
          have E1 : IntKind.i64.wrap ((i : Int) - 1) = (i : Int) - 1 := by rw [IntKind.wrap_i64]; omega
          obtain ⟨bR, offR, rfl, lR0, cI0⟩ := RdI.cell HRr.out i (by rw [HRl.out]; exact hin)
          have cI := (belr.cell (p := ⟨bR, offR + i, none⟩) lR0).trans cI0
          obtain ⟨ri, hri⟩ : ∃ ri, ri = r[i]'(by rw [HRl.out]; exact hin) := ⟨_, rfl⟩
          have hgi : r.getD i 0 = ri := by rw [hri]; simp [List.getD, HRl.out, hin]
          rw [← hri] at cI
          have HST := Lib.hid (grpP_succ r (k := rk) hlq)
          rw [← hiq, hgi] at HST
          have HGI := Lib.hid hgi
          have gl := grpP_len r nR rk q
          clear hiq hri hgi cI0
          by_cases hr : ri = rk
          · subst hr
            have HG := Lib.hid (show (ordN r nR ri ++ grpP r nR ri q) ++ [i] = ordN r nR ri ++ grpP r nR ri (q + 1) by rw [HST.out, if_pos rfl, List.append_assoc])
            have hll : (ordN r nR ri ++ grpP r nR ri q).length ≤ 200 := by rw [List.length_append]; omega
            obtain ⟨G, hG⟩ : ∃ G, G = ordN r nR ri ++ grpP r nR ri q := ⟨_, rfl⟩
            rw [← hG] at hown HG hll
            have BR := Lib.hid belr
            clear hG
            go_wp2_with (at_builtin; refine wpList_app1 u3 rfl (.tmp 50) (.tmp 52) 34 rfl u3.heap.size 3 i0 (.int .i64 0) 8 Tryd.underlying34 hi0 hz0 hz1 hz2 rfl _ _ _ rfl hown _ (iv i) rfl rfl (by unfold maxLen; omega) (by omega) (Nat.le_refl _) belr ?_; intro v' w9 hown' hb')
            have OWN9 := Lib.hid (show w9.ownsRow u3.heap.size 3 1 v' (G ++ [i]).length ((G ++ [i]).map iv) by rw [List.length_append, List.map_append]; exact hown')
            have HB9 := Lib.hid hb'
            clear hown' hb' cI
            go_loopw [8] (fun t wr => ∃ k : Nat, k ≤ i ∧ t = .int .i64 (k : Int) ∧ Below w9.heap.size w9 wr) (fun t _ => i - (intOf t).toNat)
            case atStart => exact ⟨0, Nat.zero_le _, rfl, Below.refl _ _⟩
            case round =>
              obtain ⟨k, hk, rfl, bel9⟩ := hrel
              by_cases hlk : k < i
              · have b3 : Below u3.heap.size u3 wr := HB9.out.trans (bel9.mono HB9.out.size)
                have bs := chain HS.out b3
                obtain ⟨b, off, hao, hb, s0, s1⟩ := rdl_cells (HRD.out.below bs (Nat.le_refl _)).row k (by rw [HRD.out.len, ← HN.out]; omega)
                obtain ⟨b', off', hao', -, y0, y1⟩ := rdl_cells (HRD.out.below bs (Nat.le_refl _)).row i (by rw [HRD.out.len, ← HN.out]; omega)
                rw [hao] at hao'
                cases hao'
                subst hao
                obtain ⟨_, _, hbR, -, cK0⟩ := RdI.cell HRr.out k (by rw [HRl.out]; omega)
                cases hbR
                have cK := (b3.cell (p := ⟨bR, offR + k, none⟩) lR0).trans cK0
                have lR := Nat.lt_of_lt_of_le lR0 b3.size
                obtain ⟨rk2, hrk2⟩ : ∃ x, x = r[k]'(by rw [HRl.out]; omega) := ⟨_, rfl⟩
                have hgk : r.getD k 0 = rk2 := by rw [hrk2]; simp [List.getD, HRl.out, (by omega : k < nR)]
                rw [← hrk2] at cK
                have PRX := fun W (g : Below wr.heap.size wr W) => PR0.out i hin k (by omega) W (chain bs g)
                rw [PCL.out i hin k (by omega)] at PRX
                obtain ⟨pk, hpk⟩ : ∃ p, p = p1.getD k wv0 := ⟨_, rfl⟩
                obtain ⟨pi, hpi⟩ : ∃ p, p = p1.getD i wv0 := ⟨_, rfl⟩
                rw [← hpk] at s0 s1 PRX
                rw [← hpi] at y0 y1 PRX
                have hki : (k : Int) < (i : Int) := by omega
                have hkN : (k : Int) < (nR : Int) := by omega
                have hkN2 : k < nR := by omega
                have B9 := Lib.hid bel9
                by_cases he : rk2 = ri
                · have dq : ((rk2 : Int) == (ri : Int)) = true := by rw [he]; simp
                  have hcl : clN M i k = false := HRK.out i k hin hlk (by rw [hgk, HGI.out, he])
                  rw [hcl] at PRX
                  have PRI := Lib.hid PRX
                  clear he hcl PRX hpk hpi hrk2 hgk cK0 b3 bs bel9
                  go_wp2_with fail
                  refine g_start (by kernel_rfl) ?_
                  refine g_take (i := 0) (d := (some 59)) (v := ?_) rfl rfl (by kernel_rfl) (fun _ _ _ h => h) (by rfl) (fun w' hb' => ?_) ?_
                  rotate_left
                  · (try go_simp); (try with_reducible rfl)
                  try simp only [Act.put, List.setIfInBounds_toArray, List.set_cons_zero, List.set_cons_succ]
                  refine g_take (i := 1) (d := (some 60)) (v := ?_) rfl rfl (by kernel_rfl) (fun _ _ _ h => h) (by rfl) (fun w' hb' => ?_) ?_
                  rotate_left
                  · (try go_simp); (try with_reducible rfl)
                  try simp only [Act.put, List.setIfInBounds_toArray, List.set_cons_zero, List.set_cons_succ]
                  refine g_take (i := 2) (d := (some 61)) (v := ?_) rfl rfl (by kernel_rfl) (fun _ _ _ h => h) (by rfl) (fun w' hb' => ?_) ?_
                  rotate_left
                  · (try go_simp); (try with_reducible rfl)
                  try simp only [Act.put, List.setIfInBounds_toArray, List.set_cons_zero, List.set_cons_succ]
                  refine g_take (i := 3) (d := (some 62)) (v := ?_) rfl rfl (by kernel_rfl) (fun _ _ _ h => h) (by rfl) (fun w' hb' => ?_) ?_
                  rotate_left
                  · have z := (hb'.cell (p := ⟨bR, offR + k, none⟩) lR).trans cK; (try go_simp); (try with_reducible rfl)
                  try simp only [Act.put, List.setIfInBounds_toArray, List.set_cons_zero, List.set_cons_succ]
                  refine g_take (i := 4) (d := (some 63)) (v := ?_) rfl rfl (by kernel_rfl) (fun _ _ _ h => h) (by rfl) (fun w' hb' => ?_) ?_
                  rotate_left
                  · (try go_simp); (try with_reducible rfl)
                  try simp only [Act.put, List.setIfInBounds_toArray, List.set_cons_zero, List.set_cons_succ]
                  refine g_take (i := 5) (d := (some 64)) (v := ?_) rfl rfl (by kernel_rfl) (fun _ _ _ h => h) (by rfl) (fun w' hb' => ?_) ?_
                  rotate_left
                  · (try go_simp); (try with_reducible rfl)
                  try simp only [Act.put, List.setIfInBounds_toArray, List.set_cons_zero, List.set_cons_succ]
                  refine g_take (i := 6) (d := (some 65)) (v := ?_) rfl rfl (by kernel_rfl) (fun _ _ _ h => h) (by rfl) (fun w' hb' => ?_) ?_
                  rotate_left
                  · (try go_simp); (try with_reducible rfl)
                  try simp only [Act.put, List.setIfInBounds_toArray, List.set_cons_zero, List.set_cons_succ]
                  refine g_take (i := 7) (d := (some 66)) (v := ?_) rfl rfl (by kernel_rfl) (fun _ _ _ h => h) (by rfl) (fun w' hb' => ?_) ?_
                  rotate_left
                  · (try go_simp); (try with_reducible rfl)
                  try simp only [Act.put, List.setIfInBounds_toArray, List.set_cons_zero, List.set_cons_succ]
                  refine g_take (i := 8) (d := (some 67)) (v := ?_) rfl rfl (by kernel_rfl) (fun _ _ _ h => h) (by rfl) (fun w' hb' => ?_) ?_
                  rotate_left
                  · (try go_simp); (try with_reducible rfl)
                  try simp only [Act.put, List.setIfInBounds_toArray, List.set_cons_zero, List.set_cons_succ]
                  refine g_take (i := 9) (d := (some 68)) (v := ?_) rfl rfl (by kernel_rfl) (fun _ _ _ h => h) (by rfl) (fun w' hb' => ?_) ?_
                  rotate_left
                  · (try go_simp); (try with_reducible rfl)
                  try simp only [Act.put, List.setIfInBounds_toArray, List.set_cons_zero, List.set_cons_succ]
                  refine g_take (i := 10) (d := (some 69)) (v := ?_) rfl rfl (by kernel_rfl) (fun _ _ _ h => h) (by rfl) (fun w' hb' => ?_) ?_
                  rotate_left
                  · have z0 := (hb'.cell (p := ⟨b, off + k * 2, none⟩) hb).trans s0; have z1 := (hb'.cell (p := ⟨b, off + k * 2 + 1, none⟩) hb).trans s1; (try go_simp); (try with_reducible rfl)
                  try simp only [Act.put, List.setIfInBounds_toArray, List.set_cons_zero, List.set_cons_succ]
                  refine g_take (i := 11) (d := (some 70)) (v := ?_) rfl rfl (by kernel_rfl) (fun _ _ _ h => h) (by rfl) (fun w' hb' => ?_) ?_
                  rotate_left
                  · (try go_simp); (try with_reducible rfl)
                  try simp only [Act.put, List.setIfInBounds_toArray, List.set_cons_zero, List.set_cons_succ]
                  refine g_take (i := 12) (d := (some 71)) (v := ?_) rfl rfl (by kernel_rfl) (fun _ _ _ h => h) (by rfl) (fun w' hb' => ?_) ?_
                  rotate_left
                  · (try go_simp); (try with_reducible rfl)
                  try simp only [Act.put, List.setIfInBounds_toArray, List.set_cons_zero, List.set_cons_succ]
                  refine g_take (i := 13) (d := (some 72)) (v := ?_) rfl rfl (by kernel_rfl) (fun _ _ _ h => h) (by rfl) (fun w' hb' => ?_) ?_
                  rotate_left
                  · (try go_simp); (try with_reducible rfl)
                  try simp only [Act.put, List.setIfInBounds_toArray, List.set_cons_zero, List.set_cons_succ]
                  refine g_take (i := 14) (d := (some 73)) (v := ?_) rfl rfl (by kernel_rfl) (fun _ _ _ h => h) (by rfl) (fun w' hb' => ?_) ?_
                  rotate_left
                  · have z0 := (hb'.cell (p := ⟨b, off + i * 2, none⟩) hb).trans y0; have z1 := (hb'.cell (p := ⟨b, off + i * 2 + 1, none⟩) hb).trans y1; (try go_simp); (try with_reducible rfl)
                  try simp only [Act.put, List.setIfInBounds_toArray, List.set_cons_zero, List.set_cons_succ]
                  refine g_run (i := 15) rfl (by kernel_rfl) (by rfl) (fun K hK => ?_)
                  go_simp; refine (PRI.out _ (Below.drew (Below.refl _ _))).mono ?_; rintro e w2 ⟨rfl, g⟩; have gg := Below.trans (Below.drew (Below.refl wr.heap.size wr)) g; refine hK _ _ ⟨g, ?_⟩; clear hK K g
                  try simp only [Act.put, List.setIfInBounds_toArray, List.set_cons_zero, List.set_cons_succ]
                  refine g_take (i := 16) (d := (some 75)) (v := ?_) rfl rfl (by kernel_rfl) (fun _ _ _ h => h) (by rfl) (fun w' hb' => ?_) ?_
                  rotate_left
                  · (try go_simp); (try with_reducible rfl)
                  try simp only [Act.put, List.setIfInBounds_toArray, List.set_cons_zero, List.set_cons_succ]
                  refine g_done (by kernel_rfl) ?_
                  go_wp2_with fail
                  exact ⟨⟨k + 1, by omega, by push_cast; rfl, chain B9.out gg⟩, by simp [intOf]; omega⟩
                · have dq : ((rk2 : Int) == (ri : Int)) = false := by rw [beq_eq_false_iff_ne]; omega
                  have PRI := Lib.hid PRX
                  clear he PRX hpk hpi hrk2 hgk cK0 b3 bs bel9
                  go_wp2_with fail
                  refine g_start (by kernel_rfl) ?_
                  refine g_take (i := 0) (d := (some 59)) (v := ?_) rfl rfl (by kernel_rfl) (fun _ _ _ h => h) (by rfl) (fun w' hb' => ?_) ?_
                  rotate_left
                  · (try go_simp); (try with_reducible rfl)
                  try simp only [Act.put, List.setIfInBounds_toArray, List.set_cons_zero, List.set_cons_succ]
                  refine g_take (i := 1) (d := (some 60)) (v := ?_) rfl rfl (by kernel_rfl) (fun _ _ _ h => h) (by rfl) (fun w' hb' => ?_) ?_
                  rotate_left
                  · (try go_simp); (try with_reducible rfl)
                  try simp only [Act.put, List.setIfInBounds_toArray, List.set_cons_zero, List.set_cons_succ]
                  refine g_take (i := 2) (d := (some 61)) (v := ?_) rfl rfl (by kernel_rfl) (fun _ _ _ h => h) (by rfl) (fun w' hb' => ?_) ?_
                  rotate_left
                  · (try go_simp); (try with_reducible rfl)
                  try simp only [Act.put, List.setIfInBounds_toArray, List.set_cons_zero, List.set_cons_succ]
                  refine g_take (i := 3) (d := (some 62)) (v := ?_) rfl rfl (by kernel_rfl) (fun _ _ _ h => h) (by rfl) (fun w' hb' => ?_) ?_
                  rotate_left
                  · have z := (hb'.cell (p := ⟨bR, offR + k, none⟩) lR).trans cK; (try go_simp); (try with_reducible rfl)
                  try simp only [Act.put, List.setIfInBounds_toArray, List.set_cons_zero, List.set_cons_succ]
                  refine g_take (i := 4) (d := (some 63)) (v := ?_) rfl rfl (by kernel_rfl) (fun _ _ _ h => h) (by rfl) (fun w' hb' => ?_) ?_
                  rotate_left
                  · (try go_simp); (try with_reducible rfl)
                  try simp only [Act.put, List.setIfInBounds_toArray, List.set_cons_zero, List.set_cons_succ]
                  refine g_take (i := 5) (d := (some 64)) (v := ?_) rfl rfl (by kernel_rfl) (fun _ _ _ h => h) (by rfl) (fun w' hb' => ?_) ?_
                  rotate_left
                  · (try go_simp); (try with_reducible rfl)
                  try simp only [Act.put, List.setIfInBounds_toArray, List.set_cons_zero, List.set_cons_succ]
                  refine g_take (i := 6) (d := (some 65)) (v := ?_) rfl rfl (by kernel_rfl) (fun _ _ _ h => h) (by rfl) (fun w' hb' => ?_) ?_
                  rotate_left
                  · (try go_simp); (try with_reducible rfl)
                  try simp only [Act.put, List.setIfInBounds_toArray, List.set_cons_zero, List.set_cons_succ]
                  refine g_skip (i := 7) (d := (some 66)) rfl rfl (by kernel_rfl) (fun _ _ _ h => h) (by rfl) ?_
                  try simp only [Act.put, List.setIfInBounds_toArray, List.set_cons_zero, List.set_cons_succ]
                  refine g_skip (i := 8) (d := (some 67)) rfl rfl (by kernel_rfl) (fun _ _ _ h => h) (by rfl) ?_
                  try simp only [Act.put, List.setIfInBounds_toArray, List.set_cons_zero, List.set_cons_succ]
                  refine g_skip (i := 9) (d := (some 68)) rfl rfl (by kernel_rfl) (fun _ _ _ h => h) (by rfl) ?_
                  try simp only [Act.put, List.setIfInBounds_toArray, List.set_cons_zero, List.set_cons_succ]
                  refine g_skip (i := 10) (d := (some 69)) rfl rfl (by kernel_rfl) (fun _ _ _ h => h) (by rfl) ?_
                  try simp only [Act.put, List.setIfInBounds_toArray, List.set_cons_zero, List.set_cons_succ]
                  refine g_skip (i := 11) (d := (some 70)) rfl rfl (by kernel_rfl) (fun _ _ _ h => h) (by rfl) ?_
                  try simp only [Act.put, List.setIfInBounds_toArray, List.set_cons_zero, List.set_cons_succ]
                  refine g_skip (i := 12) (d := (some 71)) rfl rfl (by kernel_rfl) (fun _ _ _ h => h) (by rfl) ?_
                  try simp only [Act.put, List.setIfInBounds_toArray, List.set_cons_zero, List.set_cons_succ]
                  refine g_skip (i := 13) (d := (some 72)) rfl rfl (by kernel_rfl) (fun _ _ _ h => h) (by rfl) ?_
                  try simp only [Act.put, List.setIfInBounds_toArray, List.set_cons_zero, List.set_cons_succ]
                  refine g_skip (i := 14) (d := (some 73)) rfl rfl (by kernel_rfl) (fun _ _ _ h => h) (by rfl) ?_
                  try simp only [Act.put, List.setIfInBounds_toArray, List.set_cons_zero, List.set_cons_succ]
                  refine g_skip (i := 15) (d := (some 74)) rfl rfl (by kernel_rfl) (fun _ _ _ h => h) (by rfl) ?_
                  try simp only [Act.put, List.setIfInBounds_toArray, List.set_cons_zero, List.set_cons_succ]
                  refine g_take (i := 16) (d := (some 75)) (v := ?_) rfl rfl (by kernel_rfl) (fun _ _ _ h => h) (by rfl) (fun w' hb' => ?_) ?_
                  rotate_left
                  · (try go_simp); (try with_reducible rfl)
                  try simp only [Act.put, List.setIfInBounds_toArray, List.set_cons_zero, List.set_cons_succ]
                  refine g_done (by kernel_rfl) ?_
                  go_wp2_with fail
                  exact ⟨⟨k + 1, by omega, by push_cast; rfl, B9.out.drew⟩, by simp [intOf]; omega⟩
              · obtain rfl : k = i := by omega
                have OWNX := Lib.hid (own_keep OWN9.out bel9)
                rw [HG.out] at OWNX
                have B9 := Lib.hid bel9
                clear bel9
                go_wp2_with fail
                exact ⟨⟨q + 1, _, by omega, rfl, Lib.hid (by have := HX.out; push_cast; omega), OWNX.out, HB9.out.trans (B9.out.mono HB9.out.size)⟩, by simp [intOf] <;> omega⟩
          · have dn : ((ri : Int) != (rk : Int)) = true := by rw [bne_iff_ne]; omega
            have OWNX := Lib.hid hown
            rw [show grpP r nR rk q = grpP r nR rk (q + 1) by rw [HST.out, if_neg hr]] at OWNX
            have BR := Lib.hid belr
            clear hown belr hr
            go_wp2_with fail
            exact ⟨⟨q + 1, _, by omega, rfl, Lib.hid (by have := HX.out; push_cast; omega), OWNX.out, BR.out⟩, by simp [intOf] <;> omega⟩
        · obtain rfl : q = nR := by omega
          obtain rfl : x = -1 := by have := HX.out; omega
          rw [grpP_all] at hown
          have OWNX := Lib.hid (show wr.ownsRow u3.heap.size 3 1 _ (ordN r q (rk + 1)).length ((ordN r q (rk + 1)).map iv) from hown)
          have BR := Lib.hid belr
          clear hown belr
          go_wp2_with fail
          exact ⟨⟨rk + 1, by omega, by push_cast; rfl, OWNX.out, BR.out⟩, by simp [intOf]; omega⟩
    · obtain rfl : rk = nR := by omega
      have hZ := own_rdv hown
      rw [HOI.out] at hZ
      have hS := chain HS.out belo
      have SWX := Lib.hid (SW.out _ wr hS hZ)
      clear hZ hown
      go_wp2_with (first | ((with_reducible refine (SWX.out).mono ?_); rintro e w1 ⟨rfl, g⟩; have hS := chain hS g; clear g) | ((with_reducible refine (AW.out _ hS).mono ?_); rintro e w1 ⟨rfl, g⟩; have hS := chain hS g; clear g))
      go_ret
      exact ⟨rfl, chain BW.out hS⟩
theorem lists_row (v : Value) (ps : List WV) (L : List Wt) (w : World) (h : RdL w v ps L) (hz : SzL L) (tab : TabAt w) :
    Calls Tryd.prog 4 #[v] w fun e w' => e = .returned (.bool true) ∧ Below w.heap.size w w' := by
  cases hall : allB (fewLW L) with
  | false => exact lists_no v ps L w tab h hz hall
  | true => exact lists_yes v ps L w tab h hz hall
theorem lranks_row (v : Value) (ps : List WV) (L : List Wt) (w : World) (h : RdL w v ps L) (hz : SzL L) (tab : TabAt w) :
    Calls Tryd.prog 5 #[v] w fun e w' => e = .returned (.bool true) ∧ Below w.heap.size w w' := by
  cases hall : allB (fewLW L) with
  | false => exact lranks_no v ps L w tab h hz hall
  | true => exact lranks_yes v ps L w tab h hz hall
end Go.Proofs.YtjmfiekgpoonjaaDoor
