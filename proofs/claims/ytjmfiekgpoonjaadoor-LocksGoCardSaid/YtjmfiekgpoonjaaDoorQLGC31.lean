/- Locks: the law LocksGo. Written by wip/tools/gen24i.py. -/
import Derived.Test.YtjmfiekgpoonjaaDoorQLGC30
namespace Go.Proofs.YtjmfiekgpoonjaaDoor
open Go Go.RowKit
set_option linter.unusedVariables false
set_option linter.unusedSimpArgs false
theorem Tb.belowB {w1 w w' : World} {pt Bs B : Nat} {aA : Option Addr} {cA N : Nat} {L : List Wt} {at' : List Nat} (T : Tb w1 w pt Bs aA cA N L at') (g : Below B w w') (hp : pt < B) : Tb w1 w' pt Bs aA cA N L at' :=
  ⟨T.bs, T.bel.trans (g.mono (by have := T.bs; have := T.pt1; omega)), (g.block _ hp).trans T.tb, (g.block _ (by have := T.pt1; omega)).trans T.st, T.len, T.ah, T.pt1, T.n64⟩
set_option maxRecDepth 100000 in
set_option maxHeartbeats 2000000 in
theorem goes_no (v : Value) (ps : List WV) (L : List Wt) (va : Value) (w : World) (tab : TabAt w) (h : RdL w v ps L) (hz : SzL L) (hall : allB (fewLW L) = false) :
    Calls Tryd.prog 7 #[v, va] w fun e w' => e = .returned (.bool true) ∧ Below w.heap.size w w' := by
  obtain ⟨ao, cap, rfl, -, -, hr⟩ := h.open
  have FW := Lib.hid (fewL_any (.slice ao L.length cap) ps L w hr hz)
  obtain ⟨M, hM⟩ : ∃ M, M = fewLW L := ⟨_, rfl⟩
  have sz : SzL M := by rw [hM]; exact fewLW_sz L
  rw [← hM] at FW hall
  have bel := Below.refl w.heap.size w
  clear h hz hr hM
  go_enter Tryd.func7, Tryd.ntmps7
  go_wp2_with fail
  refine FW.out.mono ?_
  rintro e u1 ⟨v1, p1, rfl, own, g⟩
  obtain ⟨a1, c1, e1, -, -, rd⟩ := own.rd.open
  subst e1
  have t1 := tab.below g
  have bel := chain bel g
  have NW := Lib.hid (fun W (g : Below u1.heap.size u1 W) => new_no (.slice a1 M.length c1) p1 M W (t1.below g) (rd.below g (Nat.le_refl _)) sz hall)
  have AW := Lib.hid (fun W (g : Below u1.heap.size u1 W) => awake24_any W (t1.below g))
  have hS := Below.refl u1.heap.size u1
  clear g own rd sz t1 tab
  go_wp2_with (first | ((with_reducible refine (NW.out _ hS).mono ?_); rintro e w1 ⟨rfl, g⟩; have hS := chain hS g; clear g) | ((with_reducible refine (AW.out _ hS).mono ?_); rintro e w1 ⟨rfl, g⟩; have hS := chain hS g; clear g))
  go_ret
  exact ⟨rfl, chain bel hS⟩
set_option maxRecDepth 100000 in
set_option maxHeartbeats 16000000 in
theorem goes_yes (v : Value) (ps : List WV) (L : List Wt) (vp : Value) (pk : List UInt8) (w : World) (tab : TabAt w) (h : RdL w v ps L) (hz : SzL L) (hp : Rd w vp pk) (hall : allB (fewLW L) = true) :
    Calls Tryd.prog 7 #[v, vp] w fun e w' => e = .returned (.bool true) ∧ Below w.heap.size w w' := by
  obtain ⟨i0, hi0, hz0, hz1, hz2⟩ := info_parts intinfo
  obtain ⟨ao, cap, rfl, -, -, hr⟩ := h.open
  obtain ⟨ap, cp, rfl, hp1, -, -, hpc⟩ := hp
  obtain ⟨n1, hn1⟩ : ∃ n, n = pk.length := ⟨_, rfl⟩
  rw [← hn1] at hp1 hpc ⊢
  have HPC := Lib.hid hpc
  have FW := Lib.hid (fewL_any (.slice ao L.length cap) ps L w hr hz)
  obtain ⟨M, hM⟩ : ∃ M, M = fewLW L := ⟨_, rfl⟩
  have sz : SzL M := by rw [hM]; exact fewLW_sz L
  rw [← hM] at FW hall
  have bel := Below.refl w.heap.size w
  clear h hz hr hM hpc hn1
  go_enter Tryd.func7, Tryd.ntmps7
  go_wp2_with fail
  refine FW.out.mono ?_
  rintro e u1 ⟨v1, p1, rfl, own, g⟩
  obtain ⟨a1, c1, e1, hc1, hc2, rd⟩ := own.rd.open
  subst e1
  have t1 := tab.below g
  have bel := chain bel g
  have h64 : M.length ≤ 64 := by unfold allB at hall; rw [Bool.and_eq_true, decide_eq_true_eq] at hall; exact hall.1
  have NW0 := new_yes (.slice a1 M.length c1) p1 M u1 t1 rd sz hall
  have PR0 := Lib.hid (fun n (hn : n < M.length) k (hk : k < M.length) W (g : Below u1.heap.size u1 W) => rpair_any (.slice (p1.getD k wv0).a1 (p1.getD k wv0).n1 (p1.getD k wv0).c1) (.slice (p1.getD k wv0).a2 (p1.getD k wv0).n2 (p1.getD k wv0).c2) (.slice (p1.getD n wv0).a1 (p1.getD n wv0).n1 (p1.getD n wv0).c1) (.slice (p1.getD n wv0).a2 (p1.getD n wv0).n2 (p1.getD n wv0).c2) (M.getD k wt0) (M.getD n wt0) W (t1.below g) ((rd.el k hk).below g).1 ((rd.el k hk).below g).2 ((rd.el n hn).below g).1 ((rd.el n hn).below g).2 (sz k hk) (sz n hn))
  have PCL := Lib.hid (fun n (hn : n < M.length) k (hk : k < M.length) => pair_cl hall hn hk)
  obtain ⟨N, hN⟩ : ∃ N, N = M.length := ⟨_, rfl⟩
  rw [← hN] at NW0 h64 rd hc1 PR0 PCL
  have NW := Lib.hid NW0
  have AW := Lib.hid (fun W (g : Below u1.heap.size u1 W) => awake24_any W (t1.below g))
  have HN := Lib.hid hN
  have SZ := Lib.hid sz
  have HL := Lib.hid hall
  have TB1 := Lib.hid t1
  have RD := Lib.hid rd
  have BEL := Lib.hid bel
  rw [← hN]
  clear g own rd NW0 sz t1 tab bel hall hN FW
  go_wp2_with fail
  refine NW.out.mono ?_
  rintro e u2 ⟨w1, pt, Bs, aA, cA, rfl, T, g, hBs⟩
  have hS := chain (Below.refl u1.heap.size u1) g
  obtain ⟨B0, hB0⟩ : ∃ B, B = u2.heap.size := ⟨_, rfl⟩
  have hptB : pt < B0 := by rw [hB0]; exact lt_of_block T.tb
  have hBsB : Bs < B0 := by rw [hB0]; exact lt_of_block T.st
  have hBu : u1.heap.size ≤ B0 := by rw [hB0]; exact hS.size
  have HB00 := Lib.hid (show B0 ≤ u2.heap.size by rw [hB0]; exact Nat.le_refl _)
  clear NW g hB0
  go_wp2_with fail
  go_loopw [7, 8] (fun o t wr => ∃ (k : Nat) (at' E : List Nat), t = .int .i64 (k : Int) ∧ Hid (Sched M N at' E k) ∧ Tb w1 wr pt Bs aA cA N M at' ∧ wr.ownsRow B0 3 1 o E.length (E.map iv) ∧ Below u1.heap.size u1 wr ∧ Hid (B0 ≤ wr.heap.size)) (fun _ t _ => 2 * N - (intOf t).toNat)
  case atStart => exact ⟨0, _, [], rfl, Lib.hid (Sched.zero M N), T, World.ownsRow_nil _ _ _ _, hS, HB00⟩
  case round =>
    clear T hS HB00
    obtain ⟨k, at', E, rfl, HSC, T, oe, hS, HB0⟩ := hrel
    have hmost := HSC.out.most
    have DN0 := done_any w1 pt Bs aA cA N M at' _ T
    obtain ⟨q, hq⟩ : ∃ q, q = ((List.range N).filter fun i => at'.getD i 0 != 2).length := ⟨_, rfl⟩
    rw [← hq] at DN0
    by_cases hq0 : q = 0
    · rw [hq0, show ((0 : Nat) == 0) = true from rfl] at DN0
      obtain ⟨he1, he2, he3⟩ := HSC.out.whole (by rw [← hq]; exact hq0)
      have HC := Lib.hid DN0
      have HE1 := Lib.hid he1
      have HE2 := Lib.hid he2
      have HE3 := Lib.hid he3
      clear DN0 hq hq0 he1 he2 he3 T
      go_wp2_with fail
      refine HC.out.mono ?_
      rintro e y ⟨rfl, g⟩
      have oe := own_keep oe g
      have hS := chain hS g
      clear g HC
      have HC := Lib.hid (whole_yes _ E N y (own_rdv oe) HE1.out h64 HE2.out)
      go_wp2_with fail
      refine HC.out.mono ?_
      rintro e y2 ⟨rfl, g⟩
      have oe := own_keep oe g
      have hS := chain hS g
      clear g HC
      have HC := Lib.hid (keeps_yes (.slice a1 M.length c1) p1 M _ E y2 (TB1.out.below hS) (by rw [← HN.out]; exact RD.out.below hS (Nat.le_refl _)) SZ.out HL.out (own_rdv oe) (by rw [HE1.out]; exact h64) (fun i hi => by rw [← HN.out]; exact HE3.out i hi) HSC.out.ord)
      rw [← HN.out] at HC
      go_wp2_with fail
      refine HC.out.mono ?_
      rintro e y3 ⟨rfl, g⟩
      have hS := chain hS g
      clear g HC oe
      have HC := Lib.hid (AW.out _ hS)
      go_wp2_with fail
      refine HC.out.mono ?_
      rintro e y4 ⟨rfl, g⟩
      go_wp2_with fail
      go_ret
      exact ⟨rfl, chain BEL.out (chain hS g)⟩
    · rw [show (q == 0) = false by rw [beq_eq_false_iff_ne]; exact hq0] at DN0
      have hsome := HSC.out.some (by rw [← hq]; exact hq0)
      have dk : decide (2 * (N : Int) < (k : Int)) = false := decide_eq_false (by omega)
      have dk2 : decide (2 * N < k) = false := decide_eq_false (by omega)
      have HC := Lib.hid DN0
      obtain ⟨RL, hRL⟩ : ∃ l, l = redL M N at' := ⟨_, rfl⟩
      obtain ⟨UL, hUL⟩ : ∃ l, l = runL N at' := ⟨_, rfl⟩
      have hRl : RL.length ≤ N := by rw [hRL]; unfold redL; exact Nat.le_trans (List.length_filter_le _ _) (by rw [List.length_range]; exact Nat.le_refl _)
      have hUl : UL.length ≤ N := by rw [hUL]; unfold runL; exact Nat.le_trans (List.length_filter_le _ _) (by rw [List.length_range]; exact Nat.le_refl _)
      rw [← hRL, ← hUL] at hsome
      have HRL := Lib.hid hRL
      have HUL := Lib.hid hUL
      clear DN0 hq hq0 hRL hUL
      have hEl : E.length ≤ 64 := by have := HSC.out.el; have := cntS_le (f := fun i => if at'.getD i 0 = 2 then 1 else 0) (c := 1) N (fun i => by split <;> omega); omega
      have HE64 := Lib.hid hEl
      clear hEl
      have HOE := Lib.hid oe
      clear oe
      go_wp2_with fail
      refine HC.out.mono ?_
      rintro e y0 ⟨rfl, g⟩
      have T := T.below g
      have HOE := Lib.hid (own_keep HOE.out g)
      have HB0 := Lib.hid (Nat.le_trans HB0.out g.size)
      have hS := chain hS g
      clear g HC
      have RY0 : Calls Tryd.prog 28 #[.pointer (some ⟨pt, 0, none⟩)] y0 (GivesI y0 RL) := by rw [HRL.out]; exact ready_any w1 pt Bs aA cA N M at' y0 T
      have HC := Lib.hid RY0
      have hBsy0 : Bs < y0.heap.size := lt_of_block T.st
      clear RY0
      go_wp2_with fail
      refine HC.out.mono ?_
      rintro e y1 ⟨aa, na, ca, rfl, oa, g⟩
      have T := T.below g
      have HOE := Lib.hid (own_keep HOE.out g)
      have HB0 := Lib.hid (Nat.le_trans HB0.out g.size)
      have hS := chain hS g
      obtain ⟨-, hna⟩ := own_len oa
      have HOA := Lib.hid oa
      clear g HC oa
      have RY0 : Calls Tryd.prog 30 #[.pointer (some ⟨pt, 0, none⟩)] y1 (GivesI y1 UL) := by rw [HUL.out]; exact running_any w1 pt Bs aA cA N M at' y1 T
      have HC := Lib.hid RY0
      have hBsy1 : Bs < y1.heap.size := lt_of_block T.st
      have HNA := Lib.hid hna
      rw [← hna] at hsome hRl
      clear RY0 hna
      go_wp2_with fail
      refine HC.out.mono ?_
      rintro e y2 ⟨ab, nb, cb, rfl, ob, g⟩
      have T := T.below g
      have HOE := Lib.hid (own_keep HOE.out g)
      have HOA := Lib.hid (own_keep HOA.out g)
      have HB0 := Lib.hid (Nat.le_trans HB0.out g.size)
      have hS := chain hS g
      obtain ⟨-, hnb⟩ := own_len ob
      have HOB := Lib.hid ob
      have HNB := Lib.hid hnb
      rw [← hnb] at hsome hUl
      clear g HC ob hnb
      obtain ⟨tt, htt⟩ : ∃ t, t = na + nb := ⟨_, rfl⟩
      have hsum : (na : Int) + (nb : Int) = (tt : Int) := by omega
      have ht0 : tt ≠ 0 := by omega
      have dtt : ((tt : Int) == 0) = false := by rw [beq_eq_false_iff_ne]; omega
      have htt2 : nb ≤ tt := by omega
      have htt128 : tt ≤ 128 := by omega
      have htn : tt = na + nb := htt
      have HTN0 := Lib.hid htn
      have HT := Lib.hid T
      have HS := Lib.hid hS
      clear T hS htt htn hsome
      go_wp2_with fail
      go_loopw [11] (fun t wr => ∃ a : Nat, a ≤ nb ∧ t = .int .i64 (a : Int) ∧ Below y2.heap.size y2 wr) (fun t _ => nb - (intOf t).toNat)
      case atStart => exact ⟨0, Nat.zero_le _, rfl, Below.refl _ _⟩
      case round =>
        obtain ⟨a, ha, rfl, bel⟩ := hrel
        by_cases hlta : a < nb
        · have haN : (a : Int) < (nb : Int) := by omega
          have HB := Lib.hid bel
          clear bel
          go_wp2_with fail
          go_loopw [12] (fun t wr => ∃ b9 : Nat, a < b9 ∧ b9 ≤ nb ∧ t = .int .i64 (b9 : Int) ∧ Below y2.heap.size y2 wr) (fun t _ => nb - (intOf t).toNat)
          case atStart => exact ⟨a + 1, by omega, by omega, by push_cast; rfl, HB.out⟩
          case round =>
            obtain ⟨b9, hab, hb9, rfl, bel⟩ := hrel
            by_cases hltb : b9 < nb
            · have hbN : (b9 : Int) < (nb : Int) := by omega
              obtain ⟨bO, oO, e8, lO0, cA0⟩ := rdi_getD (own_rdv HOB.out) a (by rw [← HNB.out]; exact hlta)
              subst e8
              obtain ⟨_, _, e9, -, cB0⟩ := rdi_getD (own_rdv HOB.out) b9 (by rw [← HNB.out]; exact hltb)
              cases e9
              have cA0 := (bel.cell (p := ⟨bO, oO + a, none⟩) lO0).trans cA0
              have cB0 := (bel.cell (p := ⟨bO, oO + b9, none⟩) lO0).trans cB0
              have lO := Nat.lt_of_lt_of_le lO0 bel.size
              have hx1 := (runL_get (N := N) (at' := at') (a := a) (by rw [← HUL.out, ← HNB.out]; exact hlta)).1
              have hy1 := (runL_get (N := N) (at' := at') (a := b9) (by rw [← HUL.out, ← HNB.out]; exact hltb)).1
              have hor := HSC.out.pairs (a := a) (b := b9) hab (by rw [← HUL.out, ← HNB.out]; exact hltb)
              rw [← HUL.out] at hx1 hy1 hor
              obtain ⟨x, hx⟩ : ∃ x, x = UL.getD a 0 := ⟨_, rfl⟩
              obtain ⟨y, hy⟩ : ∃ y, y = UL.getD b9 0 := ⟨_, rfl⟩
              rw [← hx] at cA0 hx1 hor
              rw [← hy] at cB0 hy1 hor
              have hxL : (x : Int) < (N : Int) := by omega
              have hyL : (y : Int) < (N : Int) := by omega
              have dx0 : decide ((x : Int) < 0) = false := decide_eq_false (by omega)
              have dyN : decide ((N : Int) ≤ (y : Int)) = false := decide_eq_false (by omega)
              have dyN2 : decide (N ≤ y) = false := decide_eq_false (by omega)
              have dyN3 : decide ((y : Int) < (N : Int)) = true := decide_eq_true (by omega)
              have dyN4 : decide (y < N) = true := decide_eq_true (by omega)
              have hSb := chain HS.out bel
              obtain ⟨b, off, hao, hb, s0, s1⟩ := rdl_cells (RD.out.below hSb (Nat.le_refl _)).row x (by rw [RD.out.len, ← HN.out]; omega)
              obtain ⟨b', off', hao', -, y0', y1'⟩ := rdl_cells (RD.out.below hSb (Nat.le_refl _)).row y (by rw [RD.out.len, ← HN.out]; omega)
              rw [hao] at hao'
              cases hao'
              subst hao
              have PRX := fun W (g : Below wr.heap.size wr W) => PR0.out y hy1 x hx1 W (chain hSb g)
              rw [PCL.out y hy1 x hx1, hor] at PRX
              obtain ⟨pa, hpa⟩ : ∃ p, p = p1.getD x wv0 := ⟨_, rfl⟩
              obtain ⟨pb, hpb⟩ : ∃ p, p = p1.getD y wv0 := ⟨_, rfl⟩
              rw [← hpa] at s0 s1 PRX
              rw [← hpb] at y0' y1' PRX
              have PRI := Lib.hid PRX
              have HB9 := Lib.hid bel
              clear hpa hpb hx hy bel hSb hor PRX
              go_wp2_with fail
              refine g_start (by kernel_rfl) ?_
              refine g_take (i := 0) (d := (some 65)) (v := ?_) rfl rfl (by kernel_rfl) (fun _ _ _ h => h) (by rfl) (fun w' hb' => ?_) ?_
              rotate_left
              · (try go_simp); (try with_reducible rfl)
              try simp only [Act.put, List.setIfInBounds_toArray, List.set_cons_zero, List.set_cons_succ]
              refine g_take (i := 1) (d := (some 66)) (v := ?_) rfl rfl (by kernel_rfl) (fun _ _ _ h => h) (by rfl) (fun w' hb' => ?_) ?_
              rotate_left
              · (try go_simp); (try with_reducible rfl)
              try simp only [Act.put, List.setIfInBounds_toArray, List.set_cons_zero, List.set_cons_succ]
              refine g_take (i := 2) (d := (some 67)) (v := ?_) rfl rfl (by kernel_rfl) (fun _ _ _ h => h) (by rfl) (fun w' hb' => ?_) ?_
              rotate_left
              · (try go_simp); (try with_reducible rfl)
              try simp only [Act.put, List.setIfInBounds_toArray, List.set_cons_zero, List.set_cons_succ]
              refine g_take (i := 3) (d := (some 68)) (v := ?_) rfl rfl (by kernel_rfl) (fun _ _ _ h => h) (by rfl) (fun w' hb' => ?_) ?_
              rotate_left
              · have z := (hb'.cell (p := ⟨bO, oO + a, none⟩) lO).trans cA0; (try go_simp); (try with_reducible rfl)
              try simp only [Act.put, List.setIfInBounds_toArray, List.set_cons_zero, List.set_cons_succ]
              refine g_take (i := 4) (d := (some 69)) (v := ?_) rfl rfl (by kernel_rfl) (fun _ _ _ h => h) (by rfl) (fun w' hb' => ?_) ?_
              rotate_left
              · (try go_simp); (try with_reducible rfl)
              try simp only [Act.put, List.setIfInBounds_toArray, List.set_cons_zero, List.set_cons_succ]
              refine g_take (i := 5) (d := (some 70)) (v := ?_) rfl rfl (by kernel_rfl) (fun _ _ _ h => h) (by rfl) (fun w' hb' => ?_) ?_
              rotate_left
              · (try go_simp); (try with_reducible rfl)
              try simp only [Act.put, List.setIfInBounds_toArray, List.set_cons_zero, List.set_cons_succ]
              refine g_take (i := 6) (d := (some 71)) (v := ?_) rfl rfl (by kernel_rfl) (fun _ _ _ h => h) (by rfl) (fun w' hb' => ?_) ?_
              rotate_left
              · (try go_simp); (try with_reducible rfl)
              try simp only [Act.put, List.setIfInBounds_toArray, List.set_cons_zero, List.set_cons_succ]
              refine g_take (i := 7) (d := (some 72)) (v := ?_) rfl rfl (by kernel_rfl) (fun _ _ _ h => h) (by rfl) (fun w' hb' => ?_) ?_
              rotate_left
              · (try go_simp); (try with_reducible rfl)
              try simp only [Act.put, List.setIfInBounds_toArray, List.set_cons_zero, List.set_cons_succ]
              refine g_take (i := 8) (d := (some 73)) (v := ?_) rfl rfl (by kernel_rfl) (fun _ _ _ h => h) (by rfl) (fun w' hb' => ?_) ?_
              rotate_left
              · (try go_simp); (try with_reducible rfl)
              try simp only [Act.put, List.setIfInBounds_toArray, List.set_cons_zero, List.set_cons_succ]
              refine g_take (i := 9) (d := (some 74)) (v := ?_) rfl rfl (by kernel_rfl) (fun _ _ _ h => h) (by rfl) (fun w' hb' => ?_) ?_
              rotate_left
              · have z := (hb'.cell (p := ⟨bO, oO + b9, none⟩) lO).trans cB0; (try go_simp); (try with_reducible rfl)
              try simp only [Act.put, List.setIfInBounds_toArray, List.set_cons_zero, List.set_cons_succ]
              refine g_take (i := 10) (d := (some 75)) (v := ?_) rfl rfl (by kernel_rfl) (fun _ _ _ h => h) (by rfl) (fun w' hb' => ?_) ?_
              rotate_left
              · (try go_simp); (try with_reducible rfl)
              try simp only [Act.put, List.setIfInBounds_toArray, List.set_cons_zero, List.set_cons_succ]
              refine g_take (i := 11) (d := (some 76)) (v := ?_) rfl rfl (by kernel_rfl) (fun _ _ _ h => h) (by rfl) (fun w' hb' => ?_) ?_
              rotate_left
              · (try go_simp); (try with_reducible rfl)
              try simp only [Act.put, List.setIfInBounds_toArray, List.set_cons_zero, List.set_cons_succ]
              refine g_take (i := 12) (d := (some 77)) (v := ?_) rfl rfl (by kernel_rfl) (fun _ _ _ h => h) (by rfl) (fun w' hb' => ?_) ?_
              rotate_left
              · (try go_simp); (try with_reducible rfl)
              try simp only [Act.put, List.setIfInBounds_toArray, List.set_cons_zero, List.set_cons_succ]
              refine g_take (i := 13) (d := (some 78)) (v := ?_) rfl rfl (by kernel_rfl) (fun _ _ _ h => h) (by rfl) (fun w' hb' => ?_) ?_
              rotate_left
              · (try go_simp); (try with_reducible rfl)
              try simp only [Act.put, List.setIfInBounds_toArray, List.set_cons_zero, List.set_cons_succ]
              refine g_take (i := 14) (d := (some 79)) (v := ?_) rfl rfl (by kernel_rfl) (fun _ _ _ h => h) (by rfl) (fun w' hb' => ?_) ?_
              rotate_left
              · (try go_simp); (try with_reducible rfl)
              try simp only [Act.put, List.setIfInBounds_toArray, List.set_cons_zero, List.set_cons_succ]
              refine g_take (i := 15) (d := (some 80)) (v := ?_) rfl rfl (by kernel_rfl) (fun _ _ _ h => h) (by rfl) (fun w' hb' => ?_) ?_
              rotate_left
              · (try go_simp); (try with_reducible rfl)
              try simp only [Act.put, List.setIfInBounds_toArray, List.set_cons_zero, List.set_cons_succ]
              refine g_take (i := 16) (d := (some 81)) (v := ?_) rfl rfl (by kernel_rfl) (fun _ _ _ h => h) (by rfl) (fun w' hb' => ?_) ?_
              rotate_left
              · (try go_simp); (try with_reducible rfl)
              try simp only [Act.put, List.setIfInBounds_toArray, List.set_cons_zero, List.set_cons_succ]
              refine g_take (i := 17) (d := (some 82)) (v := ?_) rfl rfl (by kernel_rfl) (fun _ _ _ h => h) (by rfl) (fun w' hb' => ?_) ?_
              rotate_left
              · (try go_simp); (try with_reducible rfl)
              try simp only [Act.put, List.setIfInBounds_toArray, List.set_cons_zero, List.set_cons_succ]
              refine g_take (i := 18) (d := (some 83)) (v := ?_) rfl rfl (by kernel_rfl) (fun _ _ _ h => h) (by rfl) (fun w' hb' => ?_) ?_
              rotate_left
              · (try go_simp); (try with_reducible rfl)
              try simp only [Act.put, List.setIfInBounds_toArray, List.set_cons_zero, List.set_cons_succ]
              refine g_take (i := 19) (d := (some 84)) (v := ?_) rfl rfl (by kernel_rfl) (fun _ _ _ h => h) (by rfl) (fun w' hb' => ?_) ?_
              rotate_left
              · have z := (hb'.cell (p := ⟨bO, oO + a, none⟩) lO).trans cA0; (try go_simp); (try with_reducible rfl)
              try simp only [Act.put, List.setIfInBounds_toArray, List.set_cons_zero, List.set_cons_succ]
              refine g_take (i := 20) (d := (some 85)) (v := ?_) rfl rfl (by kernel_rfl) (fun _ _ _ h => h) (by rfl) (fun w' hb' => ?_) ?_
              rotate_left
              · (try go_simp); (try with_reducible rfl)
              try simp only [Act.put, List.setIfInBounds_toArray, List.set_cons_zero, List.set_cons_succ]
              refine g_take (i := 21) (d := (some 86)) (v := ?_) rfl rfl (by kernel_rfl) (fun _ _ _ h => h) (by rfl) (fun w' hb' => ?_) ?_
              rotate_left
              · have z0 := (hb'.cell (p := ⟨b, off + x * 2, none⟩) hb).trans s0; have z1 := (hb'.cell (p := ⟨b, off + x * 2 + 1, none⟩) hb).trans s1; (try go_simp); (try with_reducible rfl)
              try simp only [Act.put, List.setIfInBounds_toArray, List.set_cons_zero, List.set_cons_succ]
              refine g_take (i := 22) (d := (some 87)) (v := ?_) rfl rfl (by kernel_rfl) (fun _ _ _ h => h) (by rfl) (fun w' hb' => ?_) ?_
              rotate_left
              · (try go_simp); (try with_reducible rfl)
              try simp only [Act.put, List.setIfInBounds_toArray, List.set_cons_zero, List.set_cons_succ]
              refine g_take (i := 23) (d := (some 88)) (v := ?_) rfl rfl (by kernel_rfl) (fun _ _ _ h => h) (by rfl) (fun w' hb' => ?_) ?_
              rotate_left
              · (try go_simp); (try with_reducible rfl)
              try simp only [Act.put, List.setIfInBounds_toArray, List.set_cons_zero, List.set_cons_succ]
              refine g_take (i := 24) (d := (some 89)) (v := ?_) rfl rfl (by kernel_rfl) (fun _ _ _ h => h) (by rfl) (fun w' hb' => ?_) ?_
              rotate_left
              · (try go_simp); (try with_reducible rfl)
              try simp only [Act.put, List.setIfInBounds_toArray, List.set_cons_zero, List.set_cons_succ]
              refine g_take (i := 25) (d := (some 90)) (v := ?_) rfl rfl (by kernel_rfl) (fun _ _ _ h => h) (by rfl) (fun w' hb' => ?_) ?_
              rotate_left
              · (try go_simp); (try with_reducible rfl)
              try simp only [Act.put, List.setIfInBounds_toArray, List.set_cons_zero, List.set_cons_succ]
              refine g_take (i := 26) (d := (some 91)) (v := ?_) rfl rfl (by kernel_rfl) (fun _ _ _ h => h) (by rfl) (fun w' hb' => ?_) ?_
              rotate_left
              · have z := (hb'.cell (p := ⟨bO, oO + b9, none⟩) lO).trans cB0; (try go_simp); (try with_reducible rfl)
              try simp only [Act.put, List.setIfInBounds_toArray, List.set_cons_zero, List.set_cons_succ]
              refine g_take (i := 27) (d := (some 92)) (v := ?_) rfl rfl (by kernel_rfl) (fun _ _ _ h => h) (by rfl) (fun w' hb' => ?_) ?_
              rotate_left
              · (try go_simp); (try with_reducible rfl)
              try simp only [Act.put, List.setIfInBounds_toArray, List.set_cons_zero, List.set_cons_succ]
              refine g_take (i := 28) (d := (some 93)) (v := ?_) rfl rfl (by kernel_rfl) (fun _ _ _ h => h) (by rfl) (fun w' hb' => ?_) ?_
              rotate_left
              · have z0 := (hb'.cell (p := ⟨b, off + y * 2, none⟩) hb).trans y0'; have z1 := (hb'.cell (p := ⟨b, off + y * 2 + 1, none⟩) hb).trans y1'; (try go_simp); (try with_reducible rfl)
              try simp only [Act.put, List.setIfInBounds_toArray, List.set_cons_zero, List.set_cons_succ]
              refine g_run (i := 29) rfl (by kernel_rfl) (by rfl) (fun K hK => ?_)
              go_simp; refine (PRI.out _ (Below.drew (Below.refl _ _))).mono ?_; rintro e w2 ⟨rfl, g⟩; have gg := Below.trans (Below.drew (Below.refl wr.heap.size wr)) g; refine hK _ _ ⟨g, ?_⟩; clear hK K g
              try simp only [Act.put, List.setIfInBounds_toArray, List.set_cons_zero, List.set_cons_succ]
              refine g_take (i := 30) (d := (some 95)) (v := ?_) rfl rfl (by kernel_rfl) (fun _ _ _ h => h) (by rfl) (fun w' hb' => ?_) ?_
              rotate_left
              · (try go_simp); (try with_reducible rfl)
              try simp only [Act.put, List.setIfInBounds_toArray, List.set_cons_zero, List.set_cons_succ]
              refine g_done (by kernel_rfl) ?_
              go_wp2_with fail
              exact ⟨⟨b9 + 1, by omega, by omega, by push_cast; rfl, chain HB9.out gg⟩, by simp [intOf]; omega⟩
            · obtain rfl : b9 = nb := by omega
              go_wp2_with fail
              exact ⟨⟨a + 1, by omega, by push_cast; rfl, bel⟩, by simp [intOf]; omega⟩
        · obtain rfl : a = nb := by omega
          have T := HT.out.below bel
          have oa := own_keep HOA.out bel
          have ob := own_keep HOB.out bel
          have oe := own_keep HOE.out bel
          have HB0 := Lib.hid (Nat.le_trans HB0.out bel.size)
          have hS := chain HS.out bel
          have hsome := HTN0.out
          clear HT HOA HOB HOE HS bel
          by_cases hpz : n1 = 0
          · have dp : decide ((0 : Int) < (n1 : Int)) = false := decide_eq_false (by omega)
            have dp2 : decide (0 < n1) = false := decide_eq_false (by omega)
            clear hpz
            by_cases hP : 0 < na
            · have dP : decide ((0 : Int) < (na : Int)) = true := decide_eq_true (by omega)
              have dP2 : decide (0 < na) = true := decide_eq_true hP
              have hg := redL_get (L := M) (N := N) (at' := at') (a := 0) (by rw [← HRL.out, ← HNA.out]; exact hP)
              rw [← HRL.out] at hg
              obtain ⟨br, ofr, e9, lr, cR⟩ := rdi_getD (own_rdv oa) 0 (by rw [← HNA.out]; exact hP)
              subst e9
              obtain ⟨i, hi9⟩ : ∃ i, i = RL.getD 0 0 := ⟨_, rfl⟩
              rw [← hi9] at hg cR
              obtain ⟨hi, h0, ho⟩ := hg
              obtain ⟨hc, hs⟩ := HSC.out.begin hi h0 ho
              have hmore := hs.most
              have BG0 := begin_yes w1 pt Bs aA cA N M at' i hi _ T
              rw [hc] at BG0
              have HC := Lib.hid BG0
              have HSN := Lib.hid hs
              have HS9 := Lib.hid hS
              have HOE9 := Lib.hid oe
              have HOA9 := Lib.hid oa
              have HOB9 := Lib.hid ob
              have CZ := cR
              simp only [Nat.add_zero] at CZ
              clear BG0 hc hs hi9 h0 ho T hS oe oa ob hsome
              go_wp2_with fail
              refine HC.out.mono ?_
              rintro e x ⟨he, T2, gg⟩
              replace he : e = .returned (.int .i64 0) := he
              subst he
              have oe := own_grown HOE9.out gg hBsB
              have hS := HS9.out.grown gg HS9.out.size (fun j e => by cases e; exact hBs)
              have HBX := Lib.hid (Nat.le_trans HB0.out gg.size)
              clear HC gg HOE9 HS9
              have HTN := Lib.hid T2
              clear T2
              go_wp2_with fail
              exact ⟨⟨k + 1, _, E, by push_cast; rfl, Lib.hid HSN.out, HTN.out, oe, hS, HBX⟩, by simp [intOf]; omega⟩
            · have hna0 : na = 0 := by omega
              have hr9 : 0 < a := by omega
              clear hP
              subst hna0
              have hg := runL_get (N := N) (at' := at') (a := 0) (by rw [← HUL.out, ← HNB.out]; exact hr9)
              rw [← HUL.out] at hg
              obtain ⟨br, ofr, e9, lr, cR⟩ := rdi_getD (own_rdv ob) 0 (by rw [← HNB.out]; exact hr9)
              subst e9
              obtain ⟨i, hi9⟩ : ∃ i, i = UL.getD 0 0 := ⟨_, rfl⟩
              have HI9 := Lib.hid hi9
              rw [← hi9] at hg cR
              obtain ⟨hi, h1⟩ := hg
              obtain ⟨hc, hs⟩ := HSC.out.end hi h1
              have hmore := hs.most
              have BG0 := end_yes w1 pt Bs aA cA N M at' i hi _ T
              rw [hc] at BG0
              have HC := Lib.hid BG0
              have HSN := Lib.hid hs
              have HS9 := Lib.hid hS
              have HOE9 := Lib.hid oe
              have HOA9 := Lib.hid oa
              have HOB9 := Lib.hid ob
              have CZ := cR
              simp only [Nat.add_zero] at CZ
              clear BG0 hc hs hi9 h1 T hS oe oa ob hsome
              go_wp2_with fail
              refine HC.out.mono ?_
              rintro e x ⟨he, T2, gg⟩
              replace he : e = .returned (.int .i64 0) := he
              subst he
              have oe := own_grown HOE9.out gg hBsB
              have ob := own_grown HOB9.out gg (hBsy1)
              have hS := HS9.out.grown gg HS9.out.size (fun j e => by cases e; exact hBs)
              have hx0 : B0 ≤ x.heap.size := Nat.le_trans HB0.out gg.size
              clear HC gg HOE9 HS9
              clear cR CZ
              obtain ⟨_, _, e9, -, cR⟩ := rdi_getD (own_rdv ob) 0 (by rw [← HNB.out]; exact hr9)
              cases e9
              rw [← HI9.out] at cR
              have CZ := cR
              simp only [Nat.add_zero] at CZ
              have hE64 : E.length ≤ 64 := HE64.out
              have HTN := Lib.hid T2
              have hbx := Below.refl B0 x
              clear T2 ob
              go_wp2_with (at_builtin; refine wpList_app1 x rfl (.tmp 137) (.tmp 145) 34 rfl B0 3 i0 (.int .i64 0) 8 Tryd.underlying34 hi0 hz0 hz1 hz2 rfl _ _ _ rfl oe _ (iv i) rfl rfl (by unfold maxLen; omega) (by omega) hx0 hbx ?_; intro v' w9 hown' hb')
              exact ⟨⟨k + 1, _, E ++ [i], by push_cast; rfl, Lib.hid HSN.out, HTN.out.belowB hb' hptB, by simpa using hown', hS.trans (hb'.mono hBu), Lib.hid (Nat.le_trans hx0 hb'.size)⟩, by simp [intOf]; omega⟩
          · have dp : decide ((0 : Int) < (n1 : Int)) = true := decide_eq_true (by omega)
            have dp2 : decide (0 < n1) = true := decide_eq_true (by omega)
            obtain ⟨bp, op, e8, lp, cP⟩ := HPC.out (by omega)
            obtain ⟨j, hj⟩ : ∃ j, j = k % n1 := ⟨_, rfl⟩
            have hj1 : j < n1 := by rw [hj]; exact Nat.mod_lt _ (by omega)
            have hj2 : j ≤ 128 := by have := Nat.mod_le k n1; omega
            have hm1 : (k : Int).tmod (n1 : Int) = (j : Int) := by rw [hj, Int.tmod_eq_emod_of_nonneg (by omega)]; rfl
            have hzn1 : ((n1 : Int) == 0) = false := by rw [beq_eq_false_iff_ne]; omega
            have hzn2 : ¬ ((n1 : Int) = 0) := by omega
            have hjj : (j : Int) < (n1 : Int) := by omega
            have cPj := ((BEL.out.trans (hS.mono BEL.out.size)).cell (p := ⟨bp, op + j, none⟩) lp).trans (cP j hj1)
            obtain ⟨pv, hpv⟩ : ∃ p, p = (pk.getD j 0).toNat := ⟨_, rfl⟩
            have hpv1 : pv < 256 := by rw [hpv]; exact (pk.getD j 0).toNat_lt
            rw [show bv (pk.getD j 0) = .int .u8 (pv : Int) by rw [hpv]; rfl] at cPj
            obtain ⟨P, hPP⟩ : ∃ P, P = pv % tt := ⟨_, rfl⟩
            have hP1 : P < tt := by rw [hPP]; exact Nat.mod_lt _ (by omega)
            have hm2 : (pv : Int).tmod (tt : Int) = (P : Int) := by rw [hPP, Int.tmod_eq_emod_of_nonneg (by omega)]; rfl
            have hzt2 : ¬ ((tt : Int) = 0) := by omega
            subst e8
            clear hj hpv hPP cP
            by_cases hP : P < na
            · have dP : decide ((P : Int) < (na : Int)) = true := decide_eq_true (by omega)
              have hg := redL_get (L := M) (N := N) (at' := at') (a := P) (by rw [← HRL.out, ← HNA.out]; exact hP)
              rw [← HRL.out] at hg
              obtain ⟨br, ofr, e9, lr, cR⟩ := rdi_getD (own_rdv oa) P (by rw [← HNA.out]; exact hP)
              subst e9
              obtain ⟨i, hi9⟩ : ∃ i, i = RL.getD P 0 := ⟨_, rfl⟩
              rw [← hi9] at hg cR
              obtain ⟨hi, h0, ho⟩ := hg
              obtain ⟨hc, hs⟩ := HSC.out.begin hi h0 ho
              have hmore := hs.most
              have BG0 := begin_yes w1 pt Bs aA cA N M at' i hi _ T
              rw [hc] at BG0
              have HC := Lib.hid BG0
              have HSN := Lib.hid hs
              have HS9 := Lib.hid hS
              have HOE9 := Lib.hid oe
              have HOA9 := Lib.hid oa
              have HOB9 := Lib.hid ob
              have CZ := cR
              clear BG0 hc hs hi9 h0 ho T hS oe oa ob hsome
              go_wp2_with fail
              refine HC.out.mono ?_
              rintro e x ⟨he, T2, gg⟩
              replace he : e = .returned (.int .i64 0) := he
              subst he
              have oe := own_grown HOE9.out gg hBsB
              have hS := HS9.out.grown gg HS9.out.size (fun j e => by cases e; exact hBs)
              have HBX := Lib.hid (Nat.le_trans HB0.out gg.size)
              clear HC gg HOE9 HS9
              have HTN := Lib.hid T2
              clear T2
              go_wp2_with fail
              exact ⟨⟨k + 1, _, E, by push_cast; rfl, Lib.hid HSN.out, HTN.out, oe, hS, HBX⟩, by simp [intOf]; omega⟩
            · have dP : decide ((P : Int) < (na : Int)) = false := decide_eq_false (by omega)
              have dP2 : decide (P < na) = false := decide_eq_false (by omega)
              obtain ⟨r, hr8⟩ : ∃ r, P = na + r := ⟨P - na, by omega⟩
              have hr9 : r < a := by omega
              have hsub : (P : Int) - (na : Int) = (r : Int) := by omega
              clear hP hr8
              have hg := runL_get (N := N) (at' := at') (a := r) (by rw [← HUL.out, ← HNB.out]; exact hr9)
              rw [← HUL.out] at hg
              obtain ⟨br, ofr, e9, lr, cR⟩ := rdi_getD (own_rdv ob) r (by rw [← HNB.out]; exact hr9)
              subst e9
              obtain ⟨i, hi9⟩ : ∃ i, i = UL.getD r 0 := ⟨_, rfl⟩
              have HI9 := Lib.hid hi9
              rw [← hi9] at hg cR
              obtain ⟨hi, h1⟩ := hg
              obtain ⟨hc, hs⟩ := HSC.out.end hi h1
              have hmore := hs.most
              have BG0 := end_yes w1 pt Bs aA cA N M at' i hi _ T
              rw [hc] at BG0
              have HC := Lib.hid BG0
              have HSN := Lib.hid hs
              have HS9 := Lib.hid hS
              have HOE9 := Lib.hid oe
              have HOA9 := Lib.hid oa
              have HOB9 := Lib.hid ob
              have CZ := cR
              clear BG0 hc hs hi9 h1 T hS oe oa ob hsome
              go_wp2_with fail
              refine HC.out.mono ?_
              rintro e x ⟨he, T2, gg⟩
              replace he : e = .returned (.int .i64 0) := he
              subst he
              have oe := own_grown HOE9.out gg hBsB
              have ob := own_grown HOB9.out gg (hBsy1)
              have hS := HS9.out.grown gg HS9.out.size (fun j e => by cases e; exact hBs)
              have hx0 : B0 ≤ x.heap.size := Nat.le_trans HB0.out gg.size
              clear HC gg HOE9 HS9
              clear cR CZ
              obtain ⟨_, _, e9, -, cR⟩ := rdi_getD (own_rdv ob) r (by rw [← HNB.out]; exact hr9)
              cases e9
              rw [← HI9.out] at cR
              have CZ := cR
              have hE64 : E.length ≤ 64 := HE64.out
              have HTN := Lib.hid T2
              have hbx := Below.refl B0 x
              clear T2 ob
              go_wp2_with (at_builtin; refine wpList_app1 x rfl (.tmp 137) (.tmp 145) 34 rfl B0 3 i0 (.int .i64 0) 8 Tryd.underlying34 hi0 hz0 hz1 hz2 rfl _ _ _ rfl oe _ (iv i) rfl rfl (by unfold maxLen; omega) (by omega) hx0 hbx ?_; intro v' w9 hown' hb')
              exact ⟨⟨k + 1, _, E ++ [i], by push_cast; rfl, Lib.hid HSN.out, HTN.out.belowB hb' hptB, by simpa using hown', hS.trans (hb'.mono hBu), Lib.hid (Nat.le_trans hx0 hb'.size)⟩, by simp [intOf]; omega⟩
theorem go_row (v : Value) (ps : List WV) (L : List Wt) (vp : Value) (pk : List UInt8) (w : World) (h : RdL w v ps L) (hz : SzL L) (hp : Rd w vp pk) (tab : TabAt w) :
    Calls Tryd.prog 7 #[v, vp] w fun e w' => e = .returned (.bool true) ∧ Below w.heap.size w w' := by
  cases hall : allB (fewLW L) with
  | false => exact goes_no v ps L vp w tab h hz hall
  | true => exact goes_yes v ps L vp pk w tab h hz hp hall
end Go.Proofs.YtjmfiekgpoonjaaDoor
