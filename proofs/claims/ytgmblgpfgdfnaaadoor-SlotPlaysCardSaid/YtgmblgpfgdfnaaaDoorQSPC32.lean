/- Slots: the law SlotPlays. Written by wip/tools/gen29z.py. -/
import Derived.Test.YtgmblgpfgdfnaaaDoorQSPC30
import Derived.Test.YtgmblgpfgdfnaaaDoorQSPC31
namespace Go.Proofs.YtgmblgpfgdfnaaaDoor
open Go Go.RowKit
set_option linter.unusedVariables false
set_option linter.unusedSimpArgs false
set_option maxRecDepth 100000
theorem drew_heapZ (X : World) : X.drew.heap = X.heap := rfl
theorem len_ps {s : Sl} (h : mayS s = true) : s.ps.length ≤ 1000 := by have := are_len (mayS_are h).1; omega
theorem len_cs {s : Sl} (h : mayS s = true) : s.cs.length ≤ 1000 := by have := are_len (mayS_are h).2.1; omega
set_option maxHeartbeats 8000000 in
theorem plays_walk (n : Int) (v : Value) (l : List Sd) (w : World) (hn : -9223372036854775808 ≤ n ∧ n ≤ 9223372036854775807) (h : RdK 4 sdC w v l) (hT : TabAt w) :
    Calls Tryd.prog 4 #[.int .i64 n, v] w fun e w' => e = .returned (.bool true) ∧ Below w.heap.size w w' := by
  obtain ⟨ao, cap, rfl, hc, hm, hr⟩ := RdK.open h
  have HN := Lib.hid hn
  have HT := Lib.hid hT
  have HR := Lib.hid hr
  obtain ⟨q5, q6, -, -⟩ := two_allocs w (.cells #[.bool false, .int .i64 0, .int .i64 0, .string ⟨#[]⟩, .slice none 0 0, .slice none 0 0] 24) (.cells #[.bool false, .int .i64 0, .int .i64 0, .string ⟨#[]⟩, .slice none 0 0, .slice none 0 0] 24)
  have B0 := ((Below.refl w.heap.size w).alloc (Nat.le_refl _) (.cells #[.bool false, .int .i64 0, .int .i64 0, .string ⟨#[]⟩, .slice none 0 0, .slice none 0 0] 24)).alloc (by simp) (.cells #[.bool false, .int .i64 0, .int .i64 0, .string ⟨#[]⟩, .slice none 0 0, .slice none 0 0] 24)
  obtain ⟨W0, hW0⟩ : ∃ W, W = (w.alloc (.cells #[.bool false, .int .i64 0, .int .i64 0, .string ⟨#[]⟩, .slice none 0 0, .slice none 0 0] 24)).alloc (.cells #[.bool false, .int .i64 0, .int .i64 0, .string ⟨#[]⟩, .slice none 0 0, .slice none 0 0] 24) := ⟨_, rfl⟩
  rw [← hW0] at q5 q6 B0
  clear h hr hT hn
  go_enter Tryd.func4, Tryd.ntmps4
  go_wp2_with fail
  rw [← hW0]
  clear hW0
  have AW := Lib.hid (fun w' (g : Below w.heap.size w w') => awake_any w' (HT.out.below g (Nat.lt_of_le_of_lt (Nat.zero_le _) HT.out.1)))
  have PR0 := fun v w => refPrimary_any v n HN.out.2 w
  have PR : ∀ v, Hid (∀ w, _) := fun v => Lib.hid (PR0 v)
  clear PR0
  have hc0 := Lib.hid hc
  go_loopw [7] (fun i wr => ∃ (k : Nat) (sh : Bool) (sv st : Int) (sb : List UInt8) (sp sc : List Vt) (sS : ByteArray) (x5 : Option Addr) (y5 z5 : Nat) (u5 : Option Addr) (o5 l5 : Nat) (x6 : Option Addr) (y6 z6 : Nat) (u6 : Option Addr) (o6 l6 : Nat), k ≤ l.length ∧ k ≤ 90 ∧ i = .int .i64 (k : Int) ∧ Hid (sS = str sb) ∧ wr.heap[w.heap.size]? = some (.cells #[.bool sh, .int .i64 sv, .int .i64 st, .string sS, .slice x5 y5 z5, .slice u5 o5 l5] 24 (0, 0)) ∧ wr.heap[w.heap.size + 1]? = some (.cells #[.bool sh, .int .i64 sv, .int .i64 st, .string sS, .slice x6 y6 z6, .slice u6 o6 l6] 24 (0, 0)) ∧ Hid (RdS wr (⟨sh, sv, st, sb, sp, sc⟩ : Sl) (.slice x5 y5 z5) (.slice u5 o5 l5)) ∧ Hid (RdS wr (⟨sh, sv, st, sb, sp, sc⟩ : Sl) (.slice x6 y6 z6) (.slice u6 o6 l6)) ∧ Hid (mayS (⟨sh, sv, st, sb, sp, sc⟩ : Sl) = true) ∧ Below w.heap.size w wr) (fun i _ => 90 - (intOf i).toNat)
  case atStart => exact ⟨0, false, 0, 0, [], [], [], ⟨#[]⟩, none, 0, 0, none, 0, 0, none, 0, 0, none, 0, 0, Nat.zero_le _, Nat.zero_le _, rfl, Lib.hid rfl, q5, q6, Lib.hid (rds0 _), Lib.hid (rds0 _), Lib.hid rfl, B0⟩
  case round =>
    obtain ⟨k, sh, sv, st, sb, sp, sc, sS, x5, y5, z5, u5, o5, l5, x6, y6, z6, u6, o6, l6, hk, hk2, rfl, HSs, q5, q6, HRs, HWs, HMs, BW⟩ := hrel
    by_cases h9 : k < 90
    rotate_left
    · have hk9 : ¬ ((k : Int) < 90) := by omega
      by_cases hlt : k < l.length
      · have hl9 : (k : Int) < (l.length : Int) := by omega
        go_wp2_with ((with_reducible refine (AW.out _ BW).mono ?_); rintro e w9 ⟨rfl, g9⟩)
        go_ret
        exact ⟨rfl, chain BW g9⟩
      · have hl9 : ¬ ((k : Int) < (l.length : Int)) := by omega
        go_wp2_with ((with_reducible refine (AW.out _ BW).mono ?_); rintro e w9 ⟨rfl, g9⟩)
        go_ret
        exact ⟨rfl, chain BW g9⟩
    have hk9 : (k : Int) < 90 := by omega
    by_cases hlt : k < l.length
    rotate_left
    · have hl9 : ¬ ((k : Int) < (l.length : Int)) := by omega
      go_wp2_with ((with_reducible refine (AW.out _ BW).mono ?_); rintro e w9 ⟨rfl, g9⟩)
      go_ret
      exact ⟨rfl, chain BW g9⟩
    have hl9 : (k : Int) < (l.length : Int) := by omega
    obtain ⟨bb, off, hao, hbb, hcell⟩ := RdK.cell sdC_len (HR.out.below BW (Nat.le_refl _)) k hlt
    obtain ⟨xk, hxk⟩ : ∃ x, x = l[k] := ⟨_, rfl⟩
    rw [← hxk] at hcell
    obtain ⟨com, a, b, c⟩ := xk
    subst hao
    have c0 := hcell 0 (by omega)
    have c1 := hcell 1 (by omega)
    have c2 := hcell 2 (by omega)
    have c3 := hcell 3 (by omega)
    simp only [sdC, Nat.add_zero, List.getElem?_cons_zero, List.getElem?_cons_succ] at c0 c1 c2 c3
    clear hcell hxk
    rw [← Nat.add_assoc] at c1 c2 c3
    go_upto_region 10 with fail
    obtain ⟨qv, qx, qy, N0⟩ := three_allocs wr (.cells #[.int .i64 a, .int .i64 b, .int .i64 c] 26) (.cells #[.bool false, .int .i64 0, .int .i64 0, .string ⟨#[]⟩, .slice none 0 0, .slice none 0 0] 24) (.cells #[.bool false, .int .i64 0, .int .i64 0, .string ⟨#[]⟩, .slice none 0 0, .slice none 0 0] 24)
    obtain ⟨V0, hV0⟩ : ∃ W, W = ((wr.alloc (.cells #[.int .i64 a, .int .i64 b, .int .i64 c] 26)).alloc (.cells #[.bool false, .int .i64 0, .int .i64 0, .string ⟨#[]⟩, .slice none 0 0, .slice none 0 0] 24)).alloc (.cells #[.bool false, .int .i64 0, .int .i64 0, .string ⟨#[]⟩, .slice none 0 0, .slice none 0 0] 24) := ⟨_, rfl⟩
    rw [← hV0] at qv qx qy N0 ⊢
    have e0 := (N0.cell (p := ⟨bb, off + k * 4, none⟩) hbb).trans c0
    clear hV0 c0 c1 c2 c3 hbb HR
    have hq6 := lt_of_block q6
    cases com with
    | true =>
      have CX0 := fun w' (g : Below wr.heap.size wr w') => (com_any (⟨sh, sv, st, sb, sp, sc⟩ : Sl) (.slice x5 y5 z5) (.slice u5 o5 l5) (⟨a, b, c⟩ : Vt) w' (HRs.out.below g (Nat.le_refl _))).mono (fun _ _ => gq_p)
      have CY0 := fun w' (g : Below wr.heap.size wr w') => (rcom_any (⟨sh, sv, st, sb, sp, sc⟩ : Sl) (.slice x6 y6 z6) (.slice u6 o6 l6) (⟨a, b, c⟩ : Vt) w' (HWs.out.below g (Nat.le_refl _))).mono (fun _ _ => gq_r)
      have HMr0 := fun e => comR_may (s := (⟨sh, sv, st, sb, sp, sc⟩ : Sl)) (v := ⟨a, b, c⟩) e
      unfold sV vtV at CX0 CY0
      simp only at CX0 CY0 HMr0
      rw [← HSs.out] at CX0 CY0

      obtain ⟨R, hR⟩ : ∃ R, R = comR (⟨sh, sv, st, sb, sp, sc⟩ : Sl) (⟨a, b, c⟩ : Vt) := ⟨_, rfl⟩
      obtain ⟨EN, hEN⟩ : ∃ E : Nat, E = castE (⟨sh, sv, st, sb, sp, sc⟩ : Sl) sc (⟨a, b, c⟩ : Vt) := ⟨_, rfl⟩
      rw [← hR, ← hEN] at CX0 CY0 HMr0
      clear hR hEN
      obtain ⟨rh, rv, rt, rb, rp, rc⟩ := R
      simp only at CX0 CY0
      obtain ⟨rS, hrS⟩ : ∃ S, S = str rb := ⟨_, rfl⟩
      rw [← hrS] at CX0 CY0
      have HSr := Lib.hid hrS
      have HMr1 := Lib.hid HMr0
      clear HMr0 hrS
      by_cases hE : EN = 0
      · have HMr := Lib.hid (HMr1.out hE)
        rw [hE, show ((0 : Nat) : Int) = 0 from rfl] at CX0 CY0
        have CX := Lib.hid CX0
        have CY := Lib.hid CY0
        clear CX0 CY0 HMr1 hE EN
        have p5 := (N0.block _ (lt_of_block q5)).trans q5
        obtain ⟨d0, d1, d2, d3, d4, d5, df⟩ := block_cells6 p5
        obtain ⟨e0, e1, e2, ef⟩ := block_cells3 qv
        go_upto_region 12 with ((with_reducible refine (CX.out _ N0).mono ?_); rintro e w1 ⟨x1, y1, z1, u1, o1, l1, rfl, R1, g⟩; clear d0 d1 d2 d3 d4 d5 df e0 e1 e2 ef p5; (replace qx := (g.block _ (lt_of_block qx)).trans qx); (replace qv := (g.block _ (lt_of_block qv)).trans qv); (replace qy := (g.block _ (lt_of_block qy)).trans qy); (obtain ⟨d0, d1, d2, d3, d4, d5, df⟩ := block_cells6 qx))
        clear d0 d1 d2 d3 d4 d5 df
        obtain ⟨W1, hW1⟩ : ∃ W, W = ((((((w1.setCell ⟨wr.heap.size + 1, 0, none⟩ (.bool rh)).setCell ⟨wr.heap.size + 1, 1, none⟩ (.int .i64 rv)).setCell ⟨wr.heap.size + 1, 2, none⟩ (.int .i64 rt)).setCell ⟨wr.heap.size + 1, 3, none⟩ (.string rS)).setCell ⟨wr.heap.size + 1, 4, none⟩ (.slice x1 y1 z1)).setCell ⟨wr.heap.size + 1, 5, none⟩ (.slice u1 o1 l1)) := ⟨_, rfl⟩
        rw [← hW1]
        have GW1 : w1.grownBy W1 (some (wr.heap.size + 1)) := by rw [hW1]; exact set6_grown
        have NW1 := below_grownB (chain N0 g) GW1 (chain N0 g).size (by omega)
        have RXW1 := rds_six qx GW1 (R1)
        have qxn : W1.heap[wr.heap.size + 1]? = some (.cells #[.bool rh, .int .i64 rv, .int .i64 rt, .string rS, .slice x1 y1 z1, .slice u1 o1 l1] 24 (0, 0)) := by rw [hW1]; exact set6_new qx
        have qvn := (set6_old (w := w1) (B := wr.heap.size + 1) (k := wr.heap.size) (u0 := .bool rh) (u1 := .int .i64 rv) (u2 := .int .i64 rt) (u3 := .string rS) (u4 := .slice x1 y1 z1) (u5 := .slice u1 o1 l1) (by omega)).trans qv
        rw [← hW1] at qvn
        have qyn := (set6_old (w := w1) (B := wr.heap.size + 1) (k := wr.heap.size + 2) (u0 := .bool rh) (u1 := .int .i64 rv) (u2 := .int .i64 rt) (u3 := .string rS) (u4 := .slice x1 y1 z1) (u5 := .slice u1 o1 l1) (by omega)).trans qy
        rw [← hW1] at qyn
        clear hW1 GW1 qx qv qy
        have qx := qxn
        clear qxn
        have qv := qvn
        clear qvn
        have qy := qyn
        clear qyn
        clear R1 g N0 CX
        have p6 := (NW1.block _ (lt_of_block q6)).trans q6
        obtain ⟨d0, d1, d2, d3, d4, d5, df⟩ := block_cells6 p6
        obtain ⟨e0, e1, e2, ef⟩ := block_cells3 qv
        go_upto_region 16 with ((with_reducible refine (CY.out _ NW1).mono ?_); rintro e w2 ⟨x2, y2, z2, u2, o2, l2, rfl, R2, g⟩; clear d0 d1 d2 d3 d4 d5 df e0 e1 e2 ef p6; (replace qx := (g.block _ (lt_of_block qx)).trans qx); (replace qv := (g.block _ (lt_of_block qv)).trans qv); (replace qy := (g.block _ (lt_of_block qy)).trans qy); (obtain ⟨d0, d1, d2, d3, d4, d5, df⟩ := block_cells6 qy))
        clear d0 d1 d2 d3 d4 d5 df
        obtain ⟨W2, hW2⟩ : ∃ W, W = ((((((w2.setCell ⟨wr.heap.size + 2, 0, none⟩ (.bool rh)).setCell ⟨wr.heap.size + 2, 1, none⟩ (.int .i64 rv)).setCell ⟨wr.heap.size + 2, 2, none⟩ (.int .i64 rt)).setCell ⟨wr.heap.size + 2, 3, none⟩ (.string rS)).setCell ⟨wr.heap.size + 2, 4, none⟩ (.slice x2 y2 z2)).setCell ⟨wr.heap.size + 2, 5, none⟩ (.slice u2 o2 l2)) := ⟨_, rfl⟩
        rw [← hW2]
        have GW2 : w2.grownBy W2 (some (wr.heap.size + 2)) := by rw [hW2]; exact set6_grown
        have NW2 := below_grownB (chain NW1 g) GW2 (chain NW1 g).size (by omega)
        have RXW2 := rds_six qy GW2 (RXW1.below g (Nat.le_refl _))
        have RYW2 := rds_six qy GW2 (R2)
        have qyn : W2.heap[wr.heap.size + 2]? = some (.cells #[.bool rh, .int .i64 rv, .int .i64 rt, .string rS, .slice x2 y2 z2, .slice u2 o2 l2] 24 (0, 0)) := by rw [hW2]; exact set6_new qy
        have qvn := (set6_old (w := w2) (B := wr.heap.size + 2) (k := wr.heap.size) (u0 := .bool rh) (u1 := .int .i64 rv) (u2 := .int .i64 rt) (u3 := .string rS) (u4 := .slice x2 y2 z2) (u5 := .slice u2 o2 l2) (by omega)).trans qv
        rw [← hW2] at qvn
        have qxn := (set6_old (w := w2) (B := wr.heap.size + 2) (k := wr.heap.size + 1) (u0 := .bool rh) (u1 := .int .i64 rv) (u2 := .int .i64 rt) (u3 := .string rS) (u4 := .slice x2 y2 z2) (u5 := .slice u2 o2 l2) (by omega)).trans qx
        rw [← hW2] at qxn
        clear hW2 GW2 qy qv qx
        have qy := qyn
        clear qyn
        have qv := qvn
        clear qvn
        have qx := qxn
        clear qxn
        clear R2 g NW1 CY qv RXW1
        have SA0 := fun w' (g : Below W2.heap.size W2 w') => same_yes (⟨rh, rv, rt, rb, rp, rc⟩ : Sl) (.slice x1 y1 z1) (.slice u1 o1 l1) (.slice x2 y2 z2) (.slice u2 o2 l2) w' (RXW2.below g (Nat.le_refl _)) (RYW2.below g (Nat.le_refl _))
        unfold sV at SA0
        simp only at SA0
        rw [← HSr.out] at SA0
        have SA := Lib.hid SA0
        clear SA0
        obtain ⟨d0, d1, d2, d3, d4, d5, df⟩ := block_cells6 qx
        obtain ⟨e0, e1, e2, e3, e4, e5, ef⟩ := block_cells6 qy
        go_upto_region 19 with ((with_reducible refine (SA.out _ (Below.refl _ _)).mono ?_); rintro e w3 ⟨rfl, g⟩; clear d0 d1 d2 d3 d4 d5 df e0 e1 e2 e3 e4 e5 ef; (replace qx := (g.block _ (lt_of_block qx)).trans qx); (replace qy := (g.block _ (lt_of_block qy)).trans qy); (have RX3 := RXW2.below g (Nat.le_refl _)); (have RY3 := RYW2.below g (Nat.le_refl _)); (have N3 := chain NW2 g); clear g)
        clear RXW2 RYW2 NW2 SA
        have p5 := (N3.block _ (lt_of_block q5)).trans q5
        have p6 := (N3.block _ (lt_of_block q6)).trans q6
        obtain ⟨w4, hw4⟩ : ∃ W, W = (((((((w3.setCell ⟨w.heap.size, 0, none⟩ (.bool rh)).setCell ⟨w.heap.size, 1, none⟩ (.int .i64 rv)).setCell ⟨w.heap.size, 2, none⟩ (.int .i64 rt)).setCell ⟨w.heap.size, 3, none⟩ (.string rS)).setCell ⟨w.heap.size, 4, none⟩ (.slice x1 y1 z1)).setCell ⟨w.heap.size, 5, none⟩ (.slice u1 o1 l1))).drew := ⟨_, rfl⟩
        obtain ⟨W5, hW5⟩ : ∃ W, W = ((((((w4.setCell ⟨w.heap.size + 1, 0, none⟩ (.bool rh)).setCell ⟨w.heap.size + 1, 1, none⟩ (.int .i64 rv)).setCell ⟨w.heap.size + 1, 2, none⟩ (.int .i64 rt)).setCell ⟨w.heap.size + 1, 3, none⟩ (.string rS)).setCell ⟨w.heap.size + 1, 4, none⟩ (.slice x2 y2 z2)).setCell ⟨w.heap.size + 1, 5, none⟩ (.slice u2 o2 l2)) := ⟨_, rfl⟩
        have G4 : w3.grownBy w4 (some (w.heap.size)) := by rw [hw4]; exact grown_drewB set6_grown
        have M4 := below_grownB (chain BW N3) G4 (chain BW N3).size (Nat.le_refl _)
        have q5a : w4.heap[w.heap.size]? = some (.cells #[.bool rh, .int .i64 rv, .int .i64 rt, .string rS, .slice x1 y1 z1, .slice u1 o1 l1] 24 (0, 0)) := by rw [hw4, drew_heapZ]; exact set6_new p5
        have q6a : w4.heap[w.heap.size + 1]? = some (.cells #[.bool sh, .int .i64 sv, .int .i64 st, .string sS, .slice x6 y6 z6, .slice u6 o6 l6] 24 (0, 0)) := by rw [hw4, drew_heapZ]; exact (set6_old (by omega)).trans p6
        have qy4 : w4.heap[wr.heap.size + 2]? = some (.cells #[.bool rh, .int .i64 rv, .int .i64 rt, .string rS, .slice x2 y2 z2, .slice u2 o2 l2] 24 (0, 0)) := by rw [hw4, drew_heapZ]; exact (set6_old (by omega)).trans qy
        have RX4 := rds_six p5 G4 RX3
        have RY4 := rds_six p5 G4 RY3
        have HW4 := Lib.hid hw4
        have HW5 := Lib.hid hW5
        clear hw4 hW5
        refine region_two (some 103) (some 104) (.agg #[.bool rh, .int .i64 rv, .int .i64 rt, .string rS, .slice x1 y1 z1, .slice u1 o1 l1]) (.agg #[.bool rh, .int .i64 rv, .int .i64 rt, .string rS, .slice x2 y2 z2, .slice u2 o2 l2]) W5 ?_ ?_
        · skip
          refine e_start (by kernel_rfl) ?_
          refine t_tail2 (i := 0) (k := 1) rfl rfl (by kernel_rfl) (by kernel_rfl) (by rfl) (by rfl) (fun K hK => ?_) (fun K hK => ?_)
          · skip
            obtain ⟨d0, d1, d2, d3, d4, d5, df⟩ := block_cells6 qx
            go_simp
            refine hK _ _ ?_
            clear hK K d0 d1 d2 d3 d4 d5 df
            try simp only [Act.put, List.setIfInBounds_toArray, List.set_cons_zero, List.set_cons_succ]
            refine t_tail2 (i := 1) (k := 2) rfl rfl (by kernel_rfl) (by kernel_rfl) (by rfl) (by rfl) (fun K hK => ?_) (fun K hK => ?_)
            · skip
              obtain ⟨d0, d1, d2, d3, d4, d5, df⟩ := block_cells6 qy
              go_simp
              refine hK _ _ ?_
              clear hK K d0 d1 d2 d3 d4 d5 df
              try simp only [Act.put, List.setIfInBounds_toArray, List.set_cons_zero, List.set_cons_succ]
              refine t_tail (i := 2) rfl (by kernel_rfl) (by kernel_rfl) (by rfl) (fun K hK => ?_)
              obtain ⟨d0, d1, d2, d3, d4, d5, df⟩ := block_cells6 p5
              go_simp
              refine hK _ _ ?_
              clear hK K d0 d1 d2 d3 d4 d5 df
              change wpO _ _ _ _ _ _ _ ((((((((w3.setCell ⟨w.heap.size, 0, none⟩ (.bool rh)).setCell ⟨w.heap.size, 1, none⟩ (.int .i64 rv)).setCell ⟨w.heap.size, 2, none⟩ (.int .i64 rt)).setCell ⟨w.heap.size, 3, none⟩ (.string rS)).setCell ⟨w.heap.size, 4, none⟩ (.slice x1 y1 z1)).setCell ⟨w.heap.size, 5, none⟩ (.slice u1 o1 l1))).drew)
              rw [← HW4.out]
              try simp only [Act.put, List.setIfInBounds_toArray, List.set_cons_zero, List.set_cons_succ]
              refine t_tail (i := 3) rfl (by kernel_rfl) (by kernel_rfl) (by rfl) (fun K hK => ?_)
              obtain ⟨d0, d1, d2, d3, d4, d5, df⟩ := block_cells6 q6a
              go_simp
              refine hK _ _ ?_
              clear hK K d0 d1 d2 d3 d4 d5 df
              try simp only [Act.put, List.setIfInBounds_toArray, List.set_cons_zero, List.set_cons_succ]
              refine t_over (by kernel_rfl) ?_
              exact ⟨rfl, rfl, HW5.out.symm⟩
            · skip
              obtain ⟨d0, d1, d2, d3, d4, d5, df⟩ := block_cells6 p5
              go_simp
              refine hK _ _ ?_
              clear hK K d0 d1 d2 d3 d4 d5 df
              change wpO _ _ _ _ _ _ _ ((((((((w3.setCell ⟨w.heap.size, 0, none⟩ (.bool rh)).setCell ⟨w.heap.size, 1, none⟩ (.int .i64 rv)).setCell ⟨w.heap.size, 2, none⟩ (.int .i64 rt)).setCell ⟨w.heap.size, 3, none⟩ (.string rS)).setCell ⟨w.heap.size, 4, none⟩ (.slice x1 y1 z1)).setCell ⟨w.heap.size, 5, none⟩ (.slice u1 o1 l1))).drew)
              rw [← HW4.out]
              try simp only [Act.put, List.setIfInBounds_toArray, List.set_cons_zero, List.set_cons_succ]
              refine t_tail (i := 1) rfl (by kernel_rfl) (by kernel_rfl) (by rfl) (fun K hK => ?_)
              obtain ⟨d0, d1, d2, d3, d4, d5, df⟩ := block_cells6 qy4
              go_simp
              refine hK _ _ ?_
              clear hK K d0 d1 d2 d3 d4 d5 df
              try simp only [Act.put, List.setIfInBounds_toArray, List.set_cons_zero, List.set_cons_succ]
              refine t_tail (i := 3) rfl (by kernel_rfl) (by kernel_rfl) (by rfl) (fun K hK => ?_)
              obtain ⟨d0, d1, d2, d3, d4, d5, df⟩ := block_cells6 q6a
              go_simp
              refine hK _ _ ?_
              clear hK K d0 d1 d2 d3 d4 d5 df
              try simp only [Act.put, List.setIfInBounds_toArray, List.set_cons_zero, List.set_cons_succ]
              refine t_over (by kernel_rfl) ?_
              exact ⟨rfl, rfl, HW5.out.symm⟩
          · skip
            obtain ⟨d0, d1, d2, d3, d4, d5, df⟩ := block_cells6 qy
            go_simp
            refine hK _ _ ?_
            clear hK K d0 d1 d2 d3 d4 d5 df
            try simp only [Act.put, List.setIfInBounds_toArray, List.set_cons_zero, List.set_cons_succ]
            refine t_tail (i := 0) rfl (by kernel_rfl) (by kernel_rfl) (by rfl) (fun K hK => ?_)
            obtain ⟨d0, d1, d2, d3, d4, d5, df⟩ := block_cells6 qx
            go_simp
            refine hK _ _ ?_
            clear hK K d0 d1 d2 d3 d4 d5 df
            try simp only [Act.put, List.setIfInBounds_toArray, List.set_cons_zero, List.set_cons_succ]
            refine t_tail (i := 2) rfl (by kernel_rfl) (by kernel_rfl) (by rfl) (fun K hK => ?_)
            obtain ⟨d0, d1, d2, d3, d4, d5, df⟩ := block_cells6 p5
            go_simp
            refine hK _ _ ?_
            clear hK K d0 d1 d2 d3 d4 d5 df
            change wpO _ _ _ _ _ _ _ ((((((((w3.setCell ⟨w.heap.size, 0, none⟩ (.bool rh)).setCell ⟨w.heap.size, 1, none⟩ (.int .i64 rv)).setCell ⟨w.heap.size, 2, none⟩ (.int .i64 rt)).setCell ⟨w.heap.size, 3, none⟩ (.string rS)).setCell ⟨w.heap.size, 4, none⟩ (.slice x1 y1 z1)).setCell ⟨w.heap.size, 5, none⟩ (.slice u1 o1 l1))).drew)
            rw [← HW4.out]
            try simp only [Act.put, List.setIfInBounds_toArray, List.set_cons_zero, List.set_cons_succ]
            refine t_tail (i := 3) rfl (by kernel_rfl) (by kernel_rfl) (by rfl) (fun K hK => ?_)
            obtain ⟨d0, d1, d2, d3, d4, d5, df⟩ := block_cells6 q6a
            go_simp
            refine hK _ _ ?_
            clear hK K d0 d1 d2 d3 d4 d5 df
            try simp only [Act.put, List.setIfInBounds_toArray, List.set_cons_zero, List.set_cons_succ]
            refine t_over (by kernel_rfl) ?_
            exact ⟨rfl, rfl, HW5.out.symm⟩
        try simp only [Act.put, List.setIfInBounds_toArray, List.set_cons_zero, List.set_cons_succ]
        have hw4 := HW4.out
        have hW5 := HW5.out
        have G5 : w4.grownBy W5 (some (w.heap.size + 1)) := by rw [hW5]; exact set6_grown
        have q5b : W5.heap[w.heap.size]? = some (.cells #[.bool rh, .int .i64 rv, .int .i64 rt, .string rS, .slice x1 y1 z1, .slice u1 o1 l1] 24 (0, 0)) := by rw [hW5]; exact (set6_old (by omega)).trans q5a
        have q6b : W5.heap[w.heap.size + 1]? = some (.cells #[.bool rh, .int .i64 rv, .int .i64 rt, .string rS, .slice x2 y2 z2, .slice u2 o2 l2] 24 (0, 0)) := by rw [hW5]; exact set6_new q6a
        have RX5 := rds_six q6a G5 RX4
        have RY5 := rds_six q6a G5 RY4
        have M5 := below_grownB M4 G5 M4.size (by omega)
        clear hW5 hw4 HW4 HW5 G4 qy4 G5 q5a q6a RX4 RY4 RX3 RY3 M4 N3 p5 p6 qx qy q5 q6 HRs HWs HMs HSs
        have FM0 := fun w' (g : Below W5.heap.size W5 w') => slMay_any (⟨rh, rv, rt, rb, rp, rc⟩ : Sl) (.slice x1 y1 z1) (.slice u1 o1 l1) w' (RX5.below g (Nat.le_refl _))
        have FP0 := fun w' (g : Below W5.heap.size W5 w') => prepared_any (⟨rh, rv, rt, rb, rp, rc⟩ : Sl) (.slice x1 y1 z1) (.slice u1 o1 l1) n w' (RX5.below g (Nat.le_refl _)) HN.out
        have FQ0 := fun w' (g : Below W5.heap.size W5 w') => refPrepared_any (⟨rh, rv, rt, rb, rp, rc⟩ : Sl) (.slice x2 y2 z2) (.slice u2 o2 l2) n w' (RY5.below g (Nat.le_refl _)) HN.out (len_ps HMr.out)
        have FC0 := fun w' (g : Below W5.heap.size W5 w') => committed_any (⟨rh, rv, rt, rb, rp, rc⟩ : Sl) (.slice x1 y1 z1) (.slice u1 o1 l1) n w' (RX5.below g (Nat.le_refl _)) HN.out
        have FD0 := fun w' (g : Below W5.heap.size W5 w') => refCommitted_any (⟨rh, rv, rt, rb, rp, rc⟩ : Sl) (.slice x2 y2 z2) (.slice u2 o2 l2) n w' (RY5.below g (Nat.le_refl _)) HN.out (len_ps HMr.out) (len_cs HMr.out)
        rw [HMr.out] at FM0
        unfold sV at FM0 FP0 FQ0 FC0 FD0
        simp only at FM0 FP0 FQ0 FC0 FD0
        rw [← HSr.out] at FM0 FP0 FQ0 FC0 FD0
        obtain ⟨PB, hPB⟩ : ∃ P, P = prepB (⟨rh, rv, rt, rb, rp, rc⟩ : Sl) n := ⟨_, rfl⟩
        obtain ⟨CB, hCB⟩ : ∃ P, P = comB (⟨rh, rv, rt, rb, rp, rc⟩ : Sl) n := ⟨_, rfl⟩
        rw [← hPB] at FP0 FQ0
        rw [← hCB] at FC0 FD0
        have FM := Lib.hid FM0
        have FP := Lib.hid FP0
        have FQ := Lib.hid FQ0
        have FC := Lib.hid FC0
        have FD := Lib.hid FD0
        clear FM0 FP0 FQ0 FC0 FD0 hPB hCB
        have K0 : Below W5.heap.size W5 W5.drew := (Below.refl _ _).drew
        replace q5b := show W5.drew.heap[w.heap.size]? = _ from q5b
        replace q6b := show W5.drew.heap[w.heap.size + 1]? = _ from q6b
        have HX5 := Lib.hid RX5
        have HY5 := Lib.hid RY5
        clear RX5 RY5
        go_upto_region 20 with fail
        refine g_start (by kernel_rfl) ?_
        refine g_take (i := 0) (d := (some 105)) (v := ?_) rfl rfl (by kernel_rfl) (fun _ _ _ h => h) (by rfl) (fun w' hb' => ?_) ?_
        rotate_left
        · obtain ⟨d0, d1, d2, d3, d4, d5, df⟩ := block_cells6 ((hb'.block _ (lt_of_block q5b)).trans q5b); (try go_simp); (try with_reducible rfl)
        try simp only [Act.put, List.setIfInBounds_toArray, List.set_cons_zero, List.set_cons_succ]
        refine g_run (i := 1) rfl (by kernel_rfl) (by rfl) (fun K hK => ?_)
        go_simp; refine (FM.out _ K0).mono ?_; rintro e v1 ⟨rfl, g⟩; have q5b_1 := (g.block _ (lt_of_block q5b)).trans q5b; have q6b_1 := (g.block _ (lt_of_block q6b)).trans q6b; have K1 := chain K0 g; refine hK _ _ ⟨g, ?_⟩; clear hK K g
        try simp only [Act.put, List.setIfInBounds_toArray, List.set_cons_zero, List.set_cons_succ]
        refine g_take (i := 2) (d := (some 107)) (v := ?_) rfl rfl (by kernel_rfl) (fun _ _ _ h => h) (by rfl) (fun w' hb' => ?_) ?_
        rotate_left
        · (try go_simp); (try with_reducible rfl)
        try simp only [Act.put, List.setIfInBounds_toArray, List.set_cons_zero, List.set_cons_succ]
        refine g_take (i := 3) (d := (some 108)) (v := ?_) rfl rfl (by kernel_rfl) (fun _ _ _ h => h) (by rfl) (fun w' hb' => ?_) ?_
        rotate_left
        · (try go_simp); (try with_reducible rfl)
        try simp only [Act.put, List.setIfInBounds_toArray, List.set_cons_zero, List.set_cons_succ]
        refine g_take (i := 4) (d := (some 109)) (v := ?_) rfl rfl (by kernel_rfl) (fun _ _ _ h => h) (by rfl) (fun w' hb' => ?_) ?_
        rotate_left
        · obtain ⟨d0, d1, d2, d3, d4, d5, df⟩ := block_cells6 ((hb'.block _ (lt_of_block q5b_1)).trans q5b_1); (try go_simp); (try with_reducible rfl)
        try simp only [Act.put, List.setIfInBounds_toArray, List.set_cons_zero, List.set_cons_succ]
        refine g_take (i := 5) (d := (some 110)) (v := ?_) rfl rfl (by kernel_rfl) (fun _ _ _ h => h) (by rfl) (fun w' hb' => ?_) ?_
        rotate_left
        · (try go_simp); (try with_reducible rfl)
        try simp only [Act.put, List.setIfInBounds_toArray, List.set_cons_zero, List.set_cons_succ]
        refine g_take (i := 7) (d := (some 112)) (v := ?_) rfl rfl (by kernel_rfl) (fun _ _ _ h => h) (by rfl) (fun w' hb' => ?_) ?_
        rotate_left
        · obtain ⟨d0, d1, d2, d3, d4, d5, df⟩ := block_cells6 ((hb'.block _ (lt_of_block q6b_1)).trans q6b_1); (try go_simp); (try with_reducible rfl)
        try simp only [Act.put, List.setIfInBounds_toArray, List.set_cons_zero, List.set_cons_succ]
        refine g_take (i := 8) (d := (some 113)) (v := ?_) rfl rfl (by kernel_rfl) (fun _ _ _ h => h) (by rfl) (fun w' hb' => ?_) ?_
        rotate_left
        · (try go_simp); (try with_reducible rfl)
        try simp only [Act.put, List.setIfInBounds_toArray, List.set_cons_zero, List.set_cons_succ]
        refine g_run (i := 6) rfl (by kernel_rfl) (by rfl) (fun K hK => ?_)
        go_simp; refine (FP.out _ K1).mono ?_; rintro e v2 ⟨rfl, g⟩; have q5b_2 := (g.block _ (lt_of_block q5b_1)).trans q5b_1; have q6b_2 := (g.block _ (lt_of_block q6b_1)).trans q6b_1; have K2 := chain K1 g; refine hK _ _ ⟨g, ?_⟩; clear hK K g
        try simp only [Act.put, List.setIfInBounds_toArray, List.set_cons_zero, List.set_cons_succ]
        refine g_run (i := 9) rfl (by kernel_rfl) (by rfl) (fun K hK => ?_)
        go_simp; refine (FQ.out _ K2).mono ?_; rintro e v3 ⟨rfl, g⟩; have q5b_3 := (g.block _ (lt_of_block q5b_2)).trans q5b_2; have q6b_3 := (g.block _ (lt_of_block q6b_2)).trans q6b_2; have K3 := chain K2 g; refine hK _ _ ⟨g, ?_⟩; clear hK K g
        try simp only [Act.put, List.setIfInBounds_toArray, List.set_cons_zero, List.set_cons_succ]
        refine g_take (i := 10) (d := (some 115)) (v := ?_) rfl rfl (by kernel_rfl) (fun _ _ _ h => h) (by rfl) (fun w' hb' => ?_) ?_
        rotate_left
        · (try go_simp); (try with_reducible rfl)
        try simp only [Act.put, List.setIfInBounds_toArray, List.set_cons_zero, List.set_cons_succ]
        refine g_take (i := 11) (d := (some 116)) (v := ?_) rfl rfl (by kernel_rfl) (fun _ _ _ h => h) (by rfl) (fun w' hb' => ?_) ?_
        rotate_left
        · (try go_simp); (try with_reducible rfl)
        try simp only [Act.put, List.setIfInBounds_toArray, List.set_cons_zero, List.set_cons_succ]
        refine g_take (i := 12) (d := (some 117)) (v := ?_) rfl rfl (by kernel_rfl) (fun _ _ _ h => h) (by rfl) (fun w' hb' => ?_) ?_
        rotate_left
        · (try go_simp); (try with_reducible rfl)
        try simp only [Act.put, List.setIfInBounds_toArray, List.set_cons_zero, List.set_cons_succ]
        refine g_take (i := 13) (d := (some 118)) (v := ?_) rfl rfl (by kernel_rfl) (fun _ _ _ h => h) (by rfl) (fun w' hb' => ?_) ?_
        rotate_left
        · obtain ⟨d0, d1, d2, d3, d4, d5, df⟩ := block_cells6 ((hb'.block _ (lt_of_block q5b_3)).trans q5b_3); (try go_simp); (try with_reducible rfl)
        try simp only [Act.put, List.setIfInBounds_toArray, List.set_cons_zero, List.set_cons_succ]
        refine g_take (i := 14) (d := (some 119)) (v := ?_) rfl rfl (by kernel_rfl) (fun _ _ _ h => h) (by rfl) (fun w' hb' => ?_) ?_
        rotate_left
        · (try go_simp); (try with_reducible rfl)
        try simp only [Act.put, List.setIfInBounds_toArray, List.set_cons_zero, List.set_cons_succ]
        refine g_take (i := 16) (d := (some 121)) (v := ?_) rfl rfl (by kernel_rfl) (fun _ _ _ h => h) (by rfl) (fun w' hb' => ?_) ?_
        rotate_left
        · obtain ⟨d0, d1, d2, d3, d4, d5, df⟩ := block_cells6 ((hb'.block _ (lt_of_block q6b_3)).trans q6b_3); (try go_simp); (try with_reducible rfl)
        try simp only [Act.put, List.setIfInBounds_toArray, List.set_cons_zero, List.set_cons_succ]
        refine g_take (i := 17) (d := (some 122)) (v := ?_) rfl rfl (by kernel_rfl) (fun _ _ _ h => h) (by rfl) (fun w' hb' => ?_) ?_
        rotate_left
        · (try go_simp); (try with_reducible rfl)
        try simp only [Act.put, List.setIfInBounds_toArray, List.set_cons_zero, List.set_cons_succ]
        refine g_run (i := 15) rfl (by kernel_rfl) (by rfl) (fun K hK => ?_)
        go_simp; refine (FC.out _ K3).mono ?_; rintro e v4 ⟨rfl, g⟩; have q5b_4 := (g.block _ (lt_of_block q5b_3)).trans q5b_3; have q6b_4 := (g.block _ (lt_of_block q6b_3)).trans q6b_3; have K4 := chain K3 g; refine hK _ _ ⟨g, ?_⟩; clear hK K g
        try simp only [Act.put, List.setIfInBounds_toArray, List.set_cons_zero, List.set_cons_succ]
        refine g_run (i := 18) rfl (by kernel_rfl) (by rfl) (fun K hK => ?_)
        go_simp; refine (FD.out _ K4).mono ?_; rintro e v5 ⟨rfl, g⟩; have q5b_5 := (g.block _ (lt_of_block q5b_4)).trans q5b_4; have q6b_5 := (g.block _ (lt_of_block q6b_4)).trans q6b_4; have K5 := chain K4 g; refine hK _ _ ⟨g, ?_⟩; clear hK K g
        try simp only [Act.put, List.setIfInBounds_toArray, List.set_cons_zero, List.set_cons_succ]
        refine g_take (i := 19) (d := (some 124)) (v := ?_) rfl rfl (by kernel_rfl) (fun _ _ _ h => h) (by rfl) (fun w' hb' => ?_) ?_
        rotate_left
        · (try go_simp); (try with_reducible rfl)
        try simp only [Act.put, List.setIfInBounds_toArray, List.set_cons_zero, List.set_cons_succ]
        refine g_take (i := 20) (d := (some 125)) (v := ?_) rfl rfl (by kernel_rfl) (fun _ _ _ h => h) (by rfl) (fun w' hb' => ?_) ?_
        rotate_left
        · (try go_simp); (try with_reducible rfl)
        try simp only [Act.put, List.setIfInBounds_toArray, List.set_cons_zero, List.set_cons_succ]
        refine g_done (by kernel_rfl) ?_
        go_wp2_with fail
        exact ⟨⟨k + 1, rh, rv, rt, rb, rp, rc, rS, x1, y1, z1, u1, o1, l1, x2, y2, z2, u2, o2, l2, by omega, by omega, by push_cast; rfl, HSr, q5b_5, q6b_5, Lib.hid (HX5.out.below K5 (Nat.le_refl _)), Lib.hid (HY5.out.below K5 (Nat.le_refl _)), HMr, chain M5 K5⟩, by simp [intOf]; omega⟩
      · obtain ⟨E, hEE⟩ : ∃ E : Int, E = (EN : Int) := ⟨_, rfl⟩
        have hE0 : (E == 0) = false := by rw [hEE]; simpa using hE
        rw [← hEE] at CX0 CY0
        have CX := Lib.hid CX0
        have CY := Lib.hid CY0
        clear CX0 CY0 HMr1 hE hEE
        have p5 := (N0.block _ (lt_of_block q5)).trans q5
        obtain ⟨d0, d1, d2, d3, d4, d5, df⟩ := block_cells6 p5
        obtain ⟨e0, e1, e2, ef⟩ := block_cells3 qv
        go_upto_region 12 with ((with_reducible refine (CX.out _ N0).mono ?_); rintro e w1 ⟨x1, y1, z1, u1, o1, l1, rfl, R1, g⟩; clear d0 d1 d2 d3 d4 d5 df e0 e1 e2 ef p5; (replace qx := (g.block _ (lt_of_block qx)).trans qx); (replace qv := (g.block _ (lt_of_block qv)).trans qv); (replace qy := (g.block _ (lt_of_block qy)).trans qy); (obtain ⟨d0, d1, d2, d3, d4, d5, df⟩ := block_cells6 qx))
        clear d0 d1 d2 d3 d4 d5 df
        obtain ⟨W1, hW1⟩ : ∃ W, W = ((((((w1.setCell ⟨wr.heap.size + 1, 0, none⟩ (.bool rh)).setCell ⟨wr.heap.size + 1, 1, none⟩ (.int .i64 rv)).setCell ⟨wr.heap.size + 1, 2, none⟩ (.int .i64 rt)).setCell ⟨wr.heap.size + 1, 3, none⟩ (.string rS)).setCell ⟨wr.heap.size + 1, 4, none⟩ (.slice x1 y1 z1)).setCell ⟨wr.heap.size + 1, 5, none⟩ (.slice u1 o1 l1)) := ⟨_, rfl⟩
        rw [← hW1]
        have GW1 : w1.grownBy W1 (some (wr.heap.size + 1)) := by rw [hW1]; exact set6_grown
        have NW1 := below_grownB (chain N0 g) GW1 (chain N0 g).size (by omega)
        have RXW1 := rds_six qx GW1 (R1)
        have qxn : W1.heap[wr.heap.size + 1]? = some (.cells #[.bool rh, .int .i64 rv, .int .i64 rt, .string rS, .slice x1 y1 z1, .slice u1 o1 l1] 24 (0, 0)) := by rw [hW1]; exact set6_new qx
        have qvn := (set6_old (w := w1) (B := wr.heap.size + 1) (k := wr.heap.size) (u0 := .bool rh) (u1 := .int .i64 rv) (u2 := .int .i64 rt) (u3 := .string rS) (u4 := .slice x1 y1 z1) (u5 := .slice u1 o1 l1) (by omega)).trans qv
        rw [← hW1] at qvn
        have qyn := (set6_old (w := w1) (B := wr.heap.size + 1) (k := wr.heap.size + 2) (u0 := .bool rh) (u1 := .int .i64 rv) (u2 := .int .i64 rt) (u3 := .string rS) (u4 := .slice x1 y1 z1) (u5 := .slice u1 o1 l1) (by omega)).trans qy
        rw [← hW1] at qyn
        clear hW1 GW1 qx qv qy
        have qx := qxn
        clear qxn
        have qv := qvn
        clear qvn
        have qy := qyn
        clear qyn
        clear R1 g N0 CX
        have p6 := (NW1.block _ (lt_of_block q6)).trans q6
        obtain ⟨d0, d1, d2, d3, d4, d5, df⟩ := block_cells6 p6
        obtain ⟨e0, e1, e2, ef⟩ := block_cells3 qv
        go_upto_region 16 with ((with_reducible refine (CY.out _ NW1).mono ?_); rintro e w2 ⟨x2, y2, z2, u2, o2, l2, rfl, R2, g⟩; clear d0 d1 d2 d3 d4 d5 df e0 e1 e2 ef p6; (replace qx := (g.block _ (lt_of_block qx)).trans qx); (replace qv := (g.block _ (lt_of_block qv)).trans qv); (replace qy := (g.block _ (lt_of_block qy)).trans qy); (obtain ⟨d0, d1, d2, d3, d4, d5, df⟩ := block_cells6 qy))
        clear d0 d1 d2 d3 d4 d5 df
        obtain ⟨W2, hW2⟩ : ∃ W, W = ((((((w2.setCell ⟨wr.heap.size + 2, 0, none⟩ (.bool rh)).setCell ⟨wr.heap.size + 2, 1, none⟩ (.int .i64 rv)).setCell ⟨wr.heap.size + 2, 2, none⟩ (.int .i64 rt)).setCell ⟨wr.heap.size + 2, 3, none⟩ (.string rS)).setCell ⟨wr.heap.size + 2, 4, none⟩ (.slice x2 y2 z2)).setCell ⟨wr.heap.size + 2, 5, none⟩ (.slice u2 o2 l2)) := ⟨_, rfl⟩
        rw [← hW2]
        have GW2 : w2.grownBy W2 (some (wr.heap.size + 2)) := by rw [hW2]; exact set6_grown
        have NW2 := below_grownB (chain NW1 g) GW2 (chain NW1 g).size (by omega)
        have RXW2 := rds_six qy GW2 (RXW1.below g (Nat.le_refl _))
        have RYW2 := rds_six qy GW2 (R2)
        have qyn : W2.heap[wr.heap.size + 2]? = some (.cells #[.bool rh, .int .i64 rv, .int .i64 rt, .string rS, .slice x2 y2 z2, .slice u2 o2 l2] 24 (0, 0)) := by rw [hW2]; exact set6_new qy
        have qvn := (set6_old (w := w2) (B := wr.heap.size + 2) (k := wr.heap.size) (u0 := .bool rh) (u1 := .int .i64 rv) (u2 := .int .i64 rt) (u3 := .string rS) (u4 := .slice x2 y2 z2) (u5 := .slice u2 o2 l2) (by omega)).trans qv
        rw [← hW2] at qvn
        have qxn := (set6_old (w := w2) (B := wr.heap.size + 2) (k := wr.heap.size + 1) (u0 := .bool rh) (u1 := .int .i64 rv) (u2 := .int .i64 rt) (u3 := .string rS) (u4 := .slice x2 y2 z2) (u5 := .slice u2 o2 l2) (by omega)).trans qx
        rw [← hW2] at qxn
        clear hW2 GW2 qy qv qx
        have qy := qyn
        clear qyn
        have qv := qvn
        clear qvn
        have qx := qxn
        clear qxn
        clear R2 g NW1 CY qv RXW1
        have SA0 := fun w' (g : Below W2.heap.size W2 w') => same_yes (⟨rh, rv, rt, rb, rp, rc⟩ : Sl) (.slice x1 y1 z1) (.slice u1 o1 l1) (.slice x2 y2 z2) (.slice u2 o2 l2) w' (RXW2.below g (Nat.le_refl _)) (RYW2.below g (Nat.le_refl _))
        unfold sV at SA0
        simp only at SA0
        rw [← HSr.out] at SA0
        have SA := Lib.hid SA0
        clear SA0
        obtain ⟨d0, d1, d2, d3, d4, d5, df⟩ := block_cells6 qx
        obtain ⟨e0, e1, e2, e3, e4, e5, ef⟩ := block_cells6 qy
        go_upto_region 20 with ((with_reducible refine (SA.out _ (Below.refl _ _)).mono ?_); rintro e w3 ⟨rfl, g⟩; clear d0 d1 d2 d3 d4 d5 df e0 e1 e2 e3 e4 e5 ef; (replace qx := (g.block _ (lt_of_block qx)).trans qx); (replace qy := (g.block _ (lt_of_block qy)).trans qy); (have RX3 := RXW2.below g (Nat.le_refl _)); (have RY3 := RYW2.below g (Nat.le_refl _)); (have N3 := chain NW2 g); clear g)
        clear RXW2 RYW2 NW2 SA RX3 RY3 qx qy HSr
        have q5b := (N3.block _ (lt_of_block q5)).trans q5
        have q6b := (N3.block _ (lt_of_block q6)).trans q6
        have RX5 := HRs.out.below N3 (Nat.le_refl _)
        have RY5 := HWs.out.below N3 (Nat.le_refl _)
        have M5 := chain BW N3
        clear q5 q6 HRs HWs N3 BW
        have FM0 := fun w' (g : Below w3.heap.size w3 w') => slMay_any (⟨sh, sv, st, sb, sp, sc⟩ : Sl) (.slice x5 y5 z5) (.slice u5 o5 l5) w' (RX5.below g (Nat.le_refl _))
        have FP0 := fun w' (g : Below w3.heap.size w3 w') => prepared_any (⟨sh, sv, st, sb, sp, sc⟩ : Sl) (.slice x5 y5 z5) (.slice u5 o5 l5) n w' (RX5.below g (Nat.le_refl _)) HN.out
        have FQ0 := fun w' (g : Below w3.heap.size w3 w') => refPrepared_any (⟨sh, sv, st, sb, sp, sc⟩ : Sl) (.slice x6 y6 z6) (.slice u6 o6 l6) n w' (RY5.below g (Nat.le_refl _)) HN.out (len_ps HMs.out)
        have FC0 := fun w' (g : Below w3.heap.size w3 w') => committed_any (⟨sh, sv, st, sb, sp, sc⟩ : Sl) (.slice x5 y5 z5) (.slice u5 o5 l5) n w' (RX5.below g (Nat.le_refl _)) HN.out
        have FD0 := fun w' (g : Below w3.heap.size w3 w') => refCommitted_any (⟨sh, sv, st, sb, sp, sc⟩ : Sl) (.slice x6 y6 z6) (.slice u6 o6 l6) n w' (RY5.below g (Nat.le_refl _)) HN.out (len_ps HMs.out) (len_cs HMs.out)
        rw [HMs.out] at FM0
        unfold sV at FM0 FP0 FQ0 FC0 FD0
        simp only at FM0 FP0 FQ0 FC0 FD0
        rw [← HSs.out] at FM0 FP0 FQ0 FC0 FD0
        obtain ⟨PB, hPB⟩ : ∃ P, P = prepB (⟨sh, sv, st, sb, sp, sc⟩ : Sl) n := ⟨_, rfl⟩
        obtain ⟨CB, hCB⟩ : ∃ P, P = comB (⟨sh, sv, st, sb, sp, sc⟩ : Sl) n := ⟨_, rfl⟩
        rw [← hPB] at FP0 FQ0
        rw [← hCB] at FC0 FD0
        have FM := Lib.hid FM0
        have FP := Lib.hid FP0
        have FQ := Lib.hid FQ0
        have FC := Lib.hid FC0
        have FD := Lib.hid FD0
        clear FM0 FP0 FQ0 FC0 FD0 hPB hCB
        have K0 : Below w3.heap.size w3 w3.drew := (Below.refl _ _).drew
        replace q5b := show w3.drew.heap[w.heap.size]? = _ from q5b
        replace q6b := show w3.drew.heap[w.heap.size + 1]? = _ from q6b
        have HX5 := Lib.hid RX5
        have HY5 := Lib.hid RY5
        clear RX5 RY5
        refine g_start (by kernel_rfl) ?_
        refine g_take (i := 0) (d := (some 105)) (v := ?_) rfl rfl (by kernel_rfl) (fun _ _ _ h => h) (by rfl) (fun w' hb' => ?_) ?_
        rotate_left
        · obtain ⟨d0, d1, d2, d3, d4, d5, df⟩ := block_cells6 ((hb'.block _ (lt_of_block q5b)).trans q5b); (try go_simp); (try with_reducible rfl)
        try simp only [Act.put, List.setIfInBounds_toArray, List.set_cons_zero, List.set_cons_succ]
        refine g_run (i := 1) rfl (by kernel_rfl) (by rfl) (fun K hK => ?_)
        go_simp; refine (FM.out _ K0).mono ?_; rintro e v1 ⟨rfl, g⟩; have q5b_1 := (g.block _ (lt_of_block q5b)).trans q5b; have q6b_1 := (g.block _ (lt_of_block q6b)).trans q6b; have K1 := chain K0 g; refine hK _ _ ⟨g, ?_⟩; clear hK K g
        try simp only [Act.put, List.setIfInBounds_toArray, List.set_cons_zero, List.set_cons_succ]
        refine g_take (i := 2) (d := (some 107)) (v := ?_) rfl rfl (by kernel_rfl) (fun _ _ _ h => h) (by rfl) (fun w' hb' => ?_) ?_
        rotate_left
        · (try go_simp); (try with_reducible rfl)
        try simp only [Act.put, List.setIfInBounds_toArray, List.set_cons_zero, List.set_cons_succ]
        refine g_take (i := 3) (d := (some 108)) (v := ?_) rfl rfl (by kernel_rfl) (fun _ _ _ h => h) (by rfl) (fun w' hb' => ?_) ?_
        rotate_left
        · (try go_simp); (try with_reducible rfl)
        try simp only [Act.put, List.setIfInBounds_toArray, List.set_cons_zero, List.set_cons_succ]
        refine g_take (i := 4) (d := (some 109)) (v := ?_) rfl rfl (by kernel_rfl) (fun _ _ _ h => h) (by rfl) (fun w' hb' => ?_) ?_
        rotate_left
        · obtain ⟨d0, d1, d2, d3, d4, d5, df⟩ := block_cells6 ((hb'.block _ (lt_of_block q5b_1)).trans q5b_1); (try go_simp); (try with_reducible rfl)
        try simp only [Act.put, List.setIfInBounds_toArray, List.set_cons_zero, List.set_cons_succ]
        refine g_take (i := 5) (d := (some 110)) (v := ?_) rfl rfl (by kernel_rfl) (fun _ _ _ h => h) (by rfl) (fun w' hb' => ?_) ?_
        rotate_left
        · (try go_simp); (try with_reducible rfl)
        try simp only [Act.put, List.setIfInBounds_toArray, List.set_cons_zero, List.set_cons_succ]
        refine g_take (i := 7) (d := (some 112)) (v := ?_) rfl rfl (by kernel_rfl) (fun _ _ _ h => h) (by rfl) (fun w' hb' => ?_) ?_
        rotate_left
        · obtain ⟨d0, d1, d2, d3, d4, d5, df⟩ := block_cells6 ((hb'.block _ (lt_of_block q6b_1)).trans q6b_1); (try go_simp); (try with_reducible rfl)
        try simp only [Act.put, List.setIfInBounds_toArray, List.set_cons_zero, List.set_cons_succ]
        refine g_take (i := 8) (d := (some 113)) (v := ?_) rfl rfl (by kernel_rfl) (fun _ _ _ h => h) (by rfl) (fun w' hb' => ?_) ?_
        rotate_left
        · (try go_simp); (try with_reducible rfl)
        try simp only [Act.put, List.setIfInBounds_toArray, List.set_cons_zero, List.set_cons_succ]
        refine g_run (i := 6) rfl (by kernel_rfl) (by rfl) (fun K hK => ?_)
        go_simp; refine (FP.out _ K1).mono ?_; rintro e v2 ⟨rfl, g⟩; have q5b_2 := (g.block _ (lt_of_block q5b_1)).trans q5b_1; have q6b_2 := (g.block _ (lt_of_block q6b_1)).trans q6b_1; have K2 := chain K1 g; refine hK _ _ ⟨g, ?_⟩; clear hK K g
        try simp only [Act.put, List.setIfInBounds_toArray, List.set_cons_zero, List.set_cons_succ]
        refine g_run (i := 9) rfl (by kernel_rfl) (by rfl) (fun K hK => ?_)
        go_simp; refine (FQ.out _ K2).mono ?_; rintro e v3 ⟨rfl, g⟩; have q5b_3 := (g.block _ (lt_of_block q5b_2)).trans q5b_2; have q6b_3 := (g.block _ (lt_of_block q6b_2)).trans q6b_2; have K3 := chain K2 g; refine hK _ _ ⟨g, ?_⟩; clear hK K g
        try simp only [Act.put, List.setIfInBounds_toArray, List.set_cons_zero, List.set_cons_succ]
        refine g_take (i := 10) (d := (some 115)) (v := ?_) rfl rfl (by kernel_rfl) (fun _ _ _ h => h) (by rfl) (fun w' hb' => ?_) ?_
        rotate_left
        · (try go_simp); (try with_reducible rfl)
        try simp only [Act.put, List.setIfInBounds_toArray, List.set_cons_zero, List.set_cons_succ]
        refine g_take (i := 11) (d := (some 116)) (v := ?_) rfl rfl (by kernel_rfl) (fun _ _ _ h => h) (by rfl) (fun w' hb' => ?_) ?_
        rotate_left
        · (try go_simp); (try with_reducible rfl)
        try simp only [Act.put, List.setIfInBounds_toArray, List.set_cons_zero, List.set_cons_succ]
        refine g_take (i := 12) (d := (some 117)) (v := ?_) rfl rfl (by kernel_rfl) (fun _ _ _ h => h) (by rfl) (fun w' hb' => ?_) ?_
        rotate_left
        · (try go_simp); (try with_reducible rfl)
        try simp only [Act.put, List.setIfInBounds_toArray, List.set_cons_zero, List.set_cons_succ]
        refine g_take (i := 13) (d := (some 118)) (v := ?_) rfl rfl (by kernel_rfl) (fun _ _ _ h => h) (by rfl) (fun w' hb' => ?_) ?_
        rotate_left
        · obtain ⟨d0, d1, d2, d3, d4, d5, df⟩ := block_cells6 ((hb'.block _ (lt_of_block q5b_3)).trans q5b_3); (try go_simp); (try with_reducible rfl)
        try simp only [Act.put, List.setIfInBounds_toArray, List.set_cons_zero, List.set_cons_succ]
        refine g_take (i := 14) (d := (some 119)) (v := ?_) rfl rfl (by kernel_rfl) (fun _ _ _ h => h) (by rfl) (fun w' hb' => ?_) ?_
        rotate_left
        · (try go_simp); (try with_reducible rfl)
        try simp only [Act.put, List.setIfInBounds_toArray, List.set_cons_zero, List.set_cons_succ]
        refine g_take (i := 16) (d := (some 121)) (v := ?_) rfl rfl (by kernel_rfl) (fun _ _ _ h => h) (by rfl) (fun w' hb' => ?_) ?_
        rotate_left
        · obtain ⟨d0, d1, d2, d3, d4, d5, df⟩ := block_cells6 ((hb'.block _ (lt_of_block q6b_3)).trans q6b_3); (try go_simp); (try with_reducible rfl)
        try simp only [Act.put, List.setIfInBounds_toArray, List.set_cons_zero, List.set_cons_succ]
        refine g_take (i := 17) (d := (some 122)) (v := ?_) rfl rfl (by kernel_rfl) (fun _ _ _ h => h) (by rfl) (fun w' hb' => ?_) ?_
        rotate_left
        · (try go_simp); (try with_reducible rfl)
        try simp only [Act.put, List.setIfInBounds_toArray, List.set_cons_zero, List.set_cons_succ]
        refine g_run (i := 15) rfl (by kernel_rfl) (by rfl) (fun K hK => ?_)
        go_simp; refine (FC.out _ K3).mono ?_; rintro e v4 ⟨rfl, g⟩; have q5b_4 := (g.block _ (lt_of_block q5b_3)).trans q5b_3; have q6b_4 := (g.block _ (lt_of_block q6b_3)).trans q6b_3; have K4 := chain K3 g; refine hK _ _ ⟨g, ?_⟩; clear hK K g
        try simp only [Act.put, List.setIfInBounds_toArray, List.set_cons_zero, List.set_cons_succ]
        refine g_run (i := 18) rfl (by kernel_rfl) (by rfl) (fun K hK => ?_)
        go_simp; refine (FD.out _ K4).mono ?_; rintro e v5 ⟨rfl, g⟩; have q5b_5 := (g.block _ (lt_of_block q5b_4)).trans q5b_4; have q6b_5 := (g.block _ (lt_of_block q6b_4)).trans q6b_4; have K5 := chain K4 g; refine hK _ _ ⟨g, ?_⟩; clear hK K g
        try simp only [Act.put, List.setIfInBounds_toArray, List.set_cons_zero, List.set_cons_succ]
        refine g_take (i := 19) (d := (some 124)) (v := ?_) rfl rfl (by kernel_rfl) (fun _ _ _ h => h) (by rfl) (fun w' hb' => ?_) ?_
        rotate_left
        · (try go_simp); (try with_reducible rfl)
        try simp only [Act.put, List.setIfInBounds_toArray, List.set_cons_zero, List.set_cons_succ]
        refine g_take (i := 20) (d := (some 125)) (v := ?_) rfl rfl (by kernel_rfl) (fun _ _ _ h => h) (by rfl) (fun w' hb' => ?_) ?_
        rotate_left
        · (try go_simp); (try with_reducible rfl)
        try simp only [Act.put, List.setIfInBounds_toArray, List.set_cons_zero, List.set_cons_succ]
        refine g_done (by kernel_rfl) ?_
        go_wp2_with fail
        exact ⟨⟨k + 1, sh, sv, st, sb, sp, sc, sS, x5, y5, z5, u5, o5, l5, x6, y6, z6, u6, o6, l6, by omega, by omega, by push_cast; rfl, HSs, q5b_5, q6b_5, Lib.hid (HX5.out.below K5 (Nat.le_refl _)), Lib.hid (HY5.out.below K5 (Nat.le_refl _)), HMs, chain M5 K5⟩, by simp [intOf]; omega⟩
    | false =>
      go_upto_region 13 with fail
      clear e0
      by_cases hp : primZ b n = a
      · have hp1 : (primZ b n == a) = true := by simpa using hp
        have PR0 := (PR b).out
        by_cases hn0 : 0 < n
        · clear PR
          obtain ⟨Pn, hPn⟩ : ∃ P, P = primZ b n := ⟨_, rfl⟩
          rw [← hPn] at PR0 hp1
          have PR := Lib.hid PR0
          clear hPn PR0 hp
          refine g_start (by kernel_rfl) ?_
          refine g_take (i := 0) (d := (some 63)) (v := ?_) rfl rfl (by kernel_rfl) (fun _ _ _ h => h) (by rfl) (fun w' hb' => ?_) ?_
          rotate_left
          · (try go_simp); (try with_reducible rfl)
          try simp only [Act.put, List.setIfInBounds_toArray, List.set_cons_zero, List.set_cons_succ]
          refine g_take (i := 1) (d := (some 64)) (v := ?_) rfl rfl (by kernel_rfl) (fun _ _ _ h => h) (by rfl) (fun w' hb' => ?_) ?_
          rotate_left
          · obtain ⟨e0, e1, e2, ef⟩ := block_cells3 ((hb'.block _ (lt_of_block qv)).trans qv); (try go_simp); (try with_reducible rfl)
          try simp only [Act.put, List.setIfInBounds_toArray, List.set_cons_zero, List.set_cons_succ]
          refine g_take (i := 2) (d := (some 65)) (v := ?_) rfl rfl (by kernel_rfl) (fun _ _ _ h => h) (by rfl) (fun w' hb' => ?_) ?_
          rotate_left
          · (try go_simp); (try with_reducible rfl)
          try simp only [Act.put, List.setIfInBounds_toArray, List.set_cons_zero, List.set_cons_succ]
          refine g_take (i := 4) (d := (some 67)) (v := ?_) rfl rfl (by kernel_rfl) (fun _ _ _ h => h) (by rfl) (fun w' hb' => ?_) ?_
          rotate_left
          · (try go_simp); (try with_reducible rfl)
          try simp only [Act.put, List.setIfInBounds_toArray, List.set_cons_zero, List.set_cons_succ]
          refine g_take (i := 5) (d := (some 68)) (v := ?_) rfl rfl (by kernel_rfl) (fun _ _ _ h => h) (by rfl) (fun w' hb' => ?_) ?_
          rotate_left
          · obtain ⟨e0, e1, e2, ef⟩ := block_cells3 ((hb'.block _ (lt_of_block qv)).trans qv); (try go_simp); (try with_reducible rfl)
          try simp only [Act.put, List.setIfInBounds_toArray, List.set_cons_zero, List.set_cons_succ]
          refine g_run (i := 3) rfl (by kernel_rfl) (by rfl) (fun K hK => ?_)
          go_simp; refine (PR.out _).mono ?_; rintro e v9 ⟨rfl, rfl⟩; refine hK _ _ ⟨Below.refl _ _, ?_⟩; clear hK K
          try simp only [Act.put, List.setIfInBounds_toArray, List.set_cons_zero, List.set_cons_succ]
          refine g_take (i := 6) (d := (some 69)) (v := ?_) rfl rfl (by kernel_rfl) (fun _ _ _ h => h) (by rfl) (fun w' hb' => ?_) ?_
          rotate_left
          · (try go_simp); (try with_reducible rfl)
          try simp only [Act.put, List.setIfInBounds_toArray, List.set_cons_zero, List.set_cons_succ]
          refine g_take (i := 7) (d := (some 70)) (v := ?_) rfl rfl (by kernel_rfl) (fun _ _ _ h => h) (by rfl) (fun w' hb' => ?_) ?_
          rotate_left
          · (try go_simp); (try with_reducible rfl)
          try simp only [Act.put, List.setIfInBounds_toArray, List.set_cons_zero, List.set_cons_succ]
          refine g_take (i := 8) (d := (some 71)) (v := ?_) rfl rfl (by kernel_rfl) (fun _ _ _ h => h) (by rfl) (fun w' hb' => ?_) ?_
          rotate_left
          · (try go_simp); (try with_reducible rfl)
          try simp only [Act.put, List.setIfInBounds_toArray, List.set_cons_zero, List.set_cons_succ]
          refine g_take (i := 9) (d := (some 72)) (v := ?_) rfl rfl (by kernel_rfl) (fun _ _ _ h => h) (by rfl) (fun w' hb' => ?_) ?_
          rotate_left
          · (try go_simp); (try with_reducible rfl)
          try simp only [Act.put, List.setIfInBounds_toArray, List.set_cons_zero, List.set_cons_succ]
          refine g_take (i := 10) (d := (some 73)) (v := ?_) rfl rfl (by kernel_rfl) (fun _ _ _ h => h) (by rfl) (fun w' hb' => ?_) ?_
          rotate_left
          · (try go_simp); (try with_reducible rfl)
          try simp only [Act.put, List.setIfInBounds_toArray, List.set_cons_zero, List.set_cons_succ]
          refine g_take (i := 11) (d := (some 62)) (v := ?_) rfl rfl (by kernel_rfl) (fun _ _ _ h => h) (by rfl) (fun w' hb' => ?_) ?_
          rotate_left
          · (try go_simp); (try with_reducible rfl)
          try simp only [Act.put, List.setIfInBounds_toArray, List.set_cons_zero, List.set_cons_succ]
          refine g_done (by kernel_rfl) ?_
          obtain ⟨V1, hV1⟩ : ∃ V, V = V0.drew := ⟨_, rfl⟩
          rw [← hV1]
          replace qv : V1.heap[wr.heap.size]? = some (.cells #[.int .i64 a, .int .i64 b, .int .i64 c] 26 (0, 0)) := by rw [hV1]; exact qv
          replace qx : V1.heap[wr.heap.size + 1]? = some (.cells #[.bool false, .int .i64 0, .int .i64 0, .string ⟨#[]⟩, .slice none 0 0, .slice none 0 0] 24 (0, 0)) := by rw [hV1]; exact qx
          replace qy : V1.heap[wr.heap.size + 2]? = some (.cells #[.bool false, .int .i64 0, .int .i64 0, .string ⟨#[]⟩, .slice none 0 0, .slice none 0 0] 24 (0, 0)) := by rw [hV1]; exact qy
          replace N0 : Below wr.heap.size wr V1 := by rw [hV1]; exact N0.drew
          clear hV1
          have CX0 := fun w' (g : Below wr.heap.size wr w') => (propose_any (⟨sh, sv, st, sb, sp, sc⟩ : Sl) (.slice x5 y5 z5) (.slice u5 o5 l5) b c [] w' (HRs.out.below g (Nat.le_refl _)) (by decide)).mono (fun _ _ => gq_p)
          have CY0 := fun w' (g : Below wr.heap.size wr w') => (rpropose_any (⟨sh, sv, st, sb, sp, sc⟩ : Sl) (.slice x6 y6 z6) (.slice u6 o6 l6) b c [] w' (HWs.out.below g (Nat.le_refl _)) (by decide)).mono (fun _ _ => gq_r)
          have HMr0 := fun e => prop_may (s := (⟨sh, sv, st, sb, sp, sc⟩ : Sl)) (vw := b) (tm := c) (body := []) e
          unfold sV at CX0 CY0
          simp only at CX0 CY0 HMr0
          rw [← HSs.out] at CX0 CY0
          rw [show str ([] : List UInt8) = ⟨#[]⟩ from rfl] at CX0 CY0
          obtain ⟨R, hR⟩ : ∃ R, R = propR (⟨sh, sv, st, sb, sp, sc⟩ : Sl) b c [] := ⟨_, rfl⟩
          obtain ⟨EN, hEN⟩ : ∃ E : Nat, E = propE (⟨sh, sv, st, sb, sp, sc⟩ : Sl) b c [] := ⟨_, rfl⟩
          rw [← hR, ← hEN] at CX0 CY0 HMr0
          clear hR hEN
          obtain ⟨rh, rv, rt, rb, rp, rc⟩ := R
          simp only at CX0 CY0
          obtain ⟨rS, hrS⟩ : ∃ S, S = str rb := ⟨_, rfl⟩
          rw [← hrS] at CX0 CY0
          have HSr := Lib.hid hrS
          have HMr1 := Lib.hid HMr0
          clear HMr0 hrS
          by_cases hE : EN = 0
          · have HMr := Lib.hid (HMr1.out hE)
            rw [hE, show ((0 : Nat) : Int) = 0 from rfl] at CX0 CY0
            have CX := Lib.hid CX0
            have CY := Lib.hid CY0
            clear CX0 CY0 HMr1 hE EN
            have p5 := (N0.block _ (lt_of_block q5)).trans q5
            obtain ⟨d0, d1, d2, d3, d4, d5, df⟩ := block_cells6 p5
            obtain ⟨e0, e1, e2, ef⟩ := block_cells3 qv
            go_upto_region 15 with ((with_reducible refine (CX.out _ N0).mono ?_); rintro e w1 ⟨x1, y1, z1, u1, o1, l1, rfl, R1, g⟩; clear d0 d1 d2 d3 d4 d5 df e0 e1 e2 ef p5; (replace qx := (g.block _ (lt_of_block qx)).trans qx); (replace qv := (g.block _ (lt_of_block qv)).trans qv); (replace qy := (g.block _ (lt_of_block qy)).trans qy); (obtain ⟨d0, d1, d2, d3, d4, d5, df⟩ := block_cells6 qx))
            clear d0 d1 d2 d3 d4 d5 df
            obtain ⟨W1, hW1⟩ : ∃ W, W = ((((((w1.setCell ⟨wr.heap.size + 1, 0, none⟩ (.bool rh)).setCell ⟨wr.heap.size + 1, 1, none⟩ (.int .i64 rv)).setCell ⟨wr.heap.size + 1, 2, none⟩ (.int .i64 rt)).setCell ⟨wr.heap.size + 1, 3, none⟩ (.string rS)).setCell ⟨wr.heap.size + 1, 4, none⟩ (.slice x1 y1 z1)).setCell ⟨wr.heap.size + 1, 5, none⟩ (.slice u1 o1 l1)) := ⟨_, rfl⟩
            rw [← hW1]
            have GW1 : w1.grownBy W1 (some (wr.heap.size + 1)) := by rw [hW1]; exact set6_grown
            have NW1 := below_grownB (chain N0 g) GW1 (chain N0 g).size (by omega)
            have RXW1 := rds_six qx GW1 (R1)
            have qxn : W1.heap[wr.heap.size + 1]? = some (.cells #[.bool rh, .int .i64 rv, .int .i64 rt, .string rS, .slice x1 y1 z1, .slice u1 o1 l1] 24 (0, 0)) := by rw [hW1]; exact set6_new qx
            have qvn := (set6_old (w := w1) (B := wr.heap.size + 1) (k := wr.heap.size) (u0 := .bool rh) (u1 := .int .i64 rv) (u2 := .int .i64 rt) (u3 := .string rS) (u4 := .slice x1 y1 z1) (u5 := .slice u1 o1 l1) (by omega)).trans qv
            rw [← hW1] at qvn
            have qyn := (set6_old (w := w1) (B := wr.heap.size + 1) (k := wr.heap.size + 2) (u0 := .bool rh) (u1 := .int .i64 rv) (u2 := .int .i64 rt) (u3 := .string rS) (u4 := .slice x1 y1 z1) (u5 := .slice u1 o1 l1) (by omega)).trans qy
            rw [← hW1] at qyn
            clear hW1 GW1 qx qv qy
            have qx := qxn
            clear qxn
            have qv := qvn
            clear qvn
            have qy := qyn
            clear qyn
            clear R1 g N0 CX
            have p6 := (NW1.block _ (lt_of_block q6)).trans q6
            obtain ⟨d0, d1, d2, d3, d4, d5, df⟩ := block_cells6 p6
            obtain ⟨e0, e1, e2, ef⟩ := block_cells3 qv
            go_upto_region 16 with ((with_reducible refine (CY.out _ NW1).mono ?_); rintro e w2 ⟨x2, y2, z2, u2, o2, l2, rfl, R2, g⟩; clear d0 d1 d2 d3 d4 d5 df e0 e1 e2 ef p6; (replace qx := (g.block _ (lt_of_block qx)).trans qx); (replace qv := (g.block _ (lt_of_block qv)).trans qv); (replace qy := (g.block _ (lt_of_block qy)).trans qy); (obtain ⟨d0, d1, d2, d3, d4, d5, df⟩ := block_cells6 qy))
            clear d0 d1 d2 d3 d4 d5 df
            obtain ⟨W2, hW2⟩ : ∃ W, W = ((((((w2.setCell ⟨wr.heap.size + 2, 0, none⟩ (.bool rh)).setCell ⟨wr.heap.size + 2, 1, none⟩ (.int .i64 rv)).setCell ⟨wr.heap.size + 2, 2, none⟩ (.int .i64 rt)).setCell ⟨wr.heap.size + 2, 3, none⟩ (.string rS)).setCell ⟨wr.heap.size + 2, 4, none⟩ (.slice x2 y2 z2)).setCell ⟨wr.heap.size + 2, 5, none⟩ (.slice u2 o2 l2)) := ⟨_, rfl⟩
            rw [← hW2]
            have GW2 : w2.grownBy W2 (some (wr.heap.size + 2)) := by rw [hW2]; exact set6_grown
            have NW2 := below_grownB (chain NW1 g) GW2 (chain NW1 g).size (by omega)
            have RXW2 := rds_six qy GW2 (RXW1.below g (Nat.le_refl _))
            have RYW2 := rds_six qy GW2 (R2)
            have qyn : W2.heap[wr.heap.size + 2]? = some (.cells #[.bool rh, .int .i64 rv, .int .i64 rt, .string rS, .slice x2 y2 z2, .slice u2 o2 l2] 24 (0, 0)) := by rw [hW2]; exact set6_new qy
            have qvn := (set6_old (w := w2) (B := wr.heap.size + 2) (k := wr.heap.size) (u0 := .bool rh) (u1 := .int .i64 rv) (u2 := .int .i64 rt) (u3 := .string rS) (u4 := .slice x2 y2 z2) (u5 := .slice u2 o2 l2) (by omega)).trans qv
            rw [← hW2] at qvn
            have qxn := (set6_old (w := w2) (B := wr.heap.size + 2) (k := wr.heap.size + 1) (u0 := .bool rh) (u1 := .int .i64 rv) (u2 := .int .i64 rt) (u3 := .string rS) (u4 := .slice x2 y2 z2) (u5 := .slice u2 o2 l2) (by omega)).trans qx
            rw [← hW2] at qxn
            clear hW2 GW2 qy qv qx
            have qy := qyn
            clear qyn
            have qv := qvn
            clear qvn
            have qx := qxn
            clear qxn
            clear R2 g NW1 CY qv RXW1
            have SA0 := fun w' (g : Below W2.heap.size W2 w') => same_yes (⟨rh, rv, rt, rb, rp, rc⟩ : Sl) (.slice x1 y1 z1) (.slice u1 o1 l1) (.slice x2 y2 z2) (.slice u2 o2 l2) w' (RXW2.below g (Nat.le_refl _)) (RYW2.below g (Nat.le_refl _))
            unfold sV at SA0
            simp only at SA0
            rw [← HSr.out] at SA0
            have SA := Lib.hid SA0
            clear SA0
            obtain ⟨d0, d1, d2, d3, d4, d5, df⟩ := block_cells6 qx
            obtain ⟨e0, e1, e2, e3, e4, e5, ef⟩ := block_cells6 qy
            go_upto_region 19 with ((with_reducible refine (SA.out _ (Below.refl _ _)).mono ?_); rintro e w3 ⟨rfl, g⟩; clear d0 d1 d2 d3 d4 d5 df e0 e1 e2 e3 e4 e5 ef; (replace qx := (g.block _ (lt_of_block qx)).trans qx); (replace qy := (g.block _ (lt_of_block qy)).trans qy); (have RX3 := RXW2.below g (Nat.le_refl _)); (have RY3 := RYW2.below g (Nat.le_refl _)); (have N3 := chain NW2 g); clear g)
            clear RXW2 RYW2 NW2 SA
            have p5 := (N3.block _ (lt_of_block q5)).trans q5
            have p6 := (N3.block _ (lt_of_block q6)).trans q6
            obtain ⟨w4, hw4⟩ : ∃ W, W = (((((((w3.setCell ⟨w.heap.size, 0, none⟩ (.bool rh)).setCell ⟨w.heap.size, 1, none⟩ (.int .i64 rv)).setCell ⟨w.heap.size, 2, none⟩ (.int .i64 rt)).setCell ⟨w.heap.size, 3, none⟩ (.string rS)).setCell ⟨w.heap.size, 4, none⟩ (.slice x1 y1 z1)).setCell ⟨w.heap.size, 5, none⟩ (.slice u1 o1 l1))).drew := ⟨_, rfl⟩
            obtain ⟨W5, hW5⟩ : ∃ W, W = ((((((w4.setCell ⟨w.heap.size + 1, 0, none⟩ (.bool rh)).setCell ⟨w.heap.size + 1, 1, none⟩ (.int .i64 rv)).setCell ⟨w.heap.size + 1, 2, none⟩ (.int .i64 rt)).setCell ⟨w.heap.size + 1, 3, none⟩ (.string rS)).setCell ⟨w.heap.size + 1, 4, none⟩ (.slice x2 y2 z2)).setCell ⟨w.heap.size + 1, 5, none⟩ (.slice u2 o2 l2)) := ⟨_, rfl⟩
            have G4 : w3.grownBy w4 (some (w.heap.size)) := by rw [hw4]; exact grown_drewB set6_grown
            have M4 := below_grownB (chain BW N3) G4 (chain BW N3).size (Nat.le_refl _)
            have q5a : w4.heap[w.heap.size]? = some (.cells #[.bool rh, .int .i64 rv, .int .i64 rt, .string rS, .slice x1 y1 z1, .slice u1 o1 l1] 24 (0, 0)) := by rw [hw4, drew_heapZ]; exact set6_new p5
            have q6a : w4.heap[w.heap.size + 1]? = some (.cells #[.bool sh, .int .i64 sv, .int .i64 st, .string sS, .slice x6 y6 z6, .slice u6 o6 l6] 24 (0, 0)) := by rw [hw4, drew_heapZ]; exact (set6_old (by omega)).trans p6
            have qy4 : w4.heap[wr.heap.size + 2]? = some (.cells #[.bool rh, .int .i64 rv, .int .i64 rt, .string rS, .slice x2 y2 z2, .slice u2 o2 l2] 24 (0, 0)) := by rw [hw4, drew_heapZ]; exact (set6_old (by omega)).trans qy
            have RX4 := rds_six p5 G4 RX3
            have RY4 := rds_six p5 G4 RY3
            have HW4 := Lib.hid hw4
            have HW5 := Lib.hid hW5
            clear hw4 hW5
            refine region_two (some 103) (some 104) (.agg #[.bool rh, .int .i64 rv, .int .i64 rt, .string rS, .slice x1 y1 z1, .slice u1 o1 l1]) (.agg #[.bool rh, .int .i64 rv, .int .i64 rt, .string rS, .slice x2 y2 z2, .slice u2 o2 l2]) W5 ?_ ?_
            · skip
              refine e_start (by kernel_rfl) ?_
              refine t_tail2 (i := 0) (k := 1) rfl rfl (by kernel_rfl) (by kernel_rfl) (by rfl) (by rfl) (fun K hK => ?_) (fun K hK => ?_)
              · skip
                obtain ⟨d0, d1, d2, d3, d4, d5, df⟩ := block_cells6 qx
                go_simp
                refine hK _ _ ?_
                clear hK K d0 d1 d2 d3 d4 d5 df
                try simp only [Act.put, List.setIfInBounds_toArray, List.set_cons_zero, List.set_cons_succ]
                refine t_tail2 (i := 1) (k := 2) rfl rfl (by kernel_rfl) (by kernel_rfl) (by rfl) (by rfl) (fun K hK => ?_) (fun K hK => ?_)
                · skip
                  obtain ⟨d0, d1, d2, d3, d4, d5, df⟩ := block_cells6 qy
                  go_simp
                  refine hK _ _ ?_
                  clear hK K d0 d1 d2 d3 d4 d5 df
                  try simp only [Act.put, List.setIfInBounds_toArray, List.set_cons_zero, List.set_cons_succ]
                  refine t_tail (i := 2) rfl (by kernel_rfl) (by kernel_rfl) (by rfl) (fun K hK => ?_)
                  obtain ⟨d0, d1, d2, d3, d4, d5, df⟩ := block_cells6 p5
                  go_simp
                  refine hK _ _ ?_
                  clear hK K d0 d1 d2 d3 d4 d5 df
                  change wpO _ _ _ _ _ _ _ ((((((((w3.setCell ⟨w.heap.size, 0, none⟩ (.bool rh)).setCell ⟨w.heap.size, 1, none⟩ (.int .i64 rv)).setCell ⟨w.heap.size, 2, none⟩ (.int .i64 rt)).setCell ⟨w.heap.size, 3, none⟩ (.string rS)).setCell ⟨w.heap.size, 4, none⟩ (.slice x1 y1 z1)).setCell ⟨w.heap.size, 5, none⟩ (.slice u1 o1 l1))).drew)
                  rw [← HW4.out]
                  try simp only [Act.put, List.setIfInBounds_toArray, List.set_cons_zero, List.set_cons_succ]
                  refine t_tail (i := 3) rfl (by kernel_rfl) (by kernel_rfl) (by rfl) (fun K hK => ?_)
                  obtain ⟨d0, d1, d2, d3, d4, d5, df⟩ := block_cells6 q6a
                  go_simp
                  refine hK _ _ ?_
                  clear hK K d0 d1 d2 d3 d4 d5 df
                  try simp only [Act.put, List.setIfInBounds_toArray, List.set_cons_zero, List.set_cons_succ]
                  refine t_over (by kernel_rfl) ?_
                  exact ⟨rfl, rfl, HW5.out.symm⟩
                · skip
                  obtain ⟨d0, d1, d2, d3, d4, d5, df⟩ := block_cells6 p5
                  go_simp
                  refine hK _ _ ?_
                  clear hK K d0 d1 d2 d3 d4 d5 df
                  change wpO _ _ _ _ _ _ _ ((((((((w3.setCell ⟨w.heap.size, 0, none⟩ (.bool rh)).setCell ⟨w.heap.size, 1, none⟩ (.int .i64 rv)).setCell ⟨w.heap.size, 2, none⟩ (.int .i64 rt)).setCell ⟨w.heap.size, 3, none⟩ (.string rS)).setCell ⟨w.heap.size, 4, none⟩ (.slice x1 y1 z1)).setCell ⟨w.heap.size, 5, none⟩ (.slice u1 o1 l1))).drew)
                  rw [← HW4.out]
                  try simp only [Act.put, List.setIfInBounds_toArray, List.set_cons_zero, List.set_cons_succ]
                  refine t_tail (i := 1) rfl (by kernel_rfl) (by kernel_rfl) (by rfl) (fun K hK => ?_)
                  obtain ⟨d0, d1, d2, d3, d4, d5, df⟩ := block_cells6 qy4
                  go_simp
                  refine hK _ _ ?_
                  clear hK K d0 d1 d2 d3 d4 d5 df
                  try simp only [Act.put, List.setIfInBounds_toArray, List.set_cons_zero, List.set_cons_succ]
                  refine t_tail (i := 3) rfl (by kernel_rfl) (by kernel_rfl) (by rfl) (fun K hK => ?_)
                  obtain ⟨d0, d1, d2, d3, d4, d5, df⟩ := block_cells6 q6a
                  go_simp
                  refine hK _ _ ?_
                  clear hK K d0 d1 d2 d3 d4 d5 df
                  try simp only [Act.put, List.setIfInBounds_toArray, List.set_cons_zero, List.set_cons_succ]
                  refine t_over (by kernel_rfl) ?_
                  exact ⟨rfl, rfl, HW5.out.symm⟩
              · skip
                obtain ⟨d0, d1, d2, d3, d4, d5, df⟩ := block_cells6 qy
                go_simp
                refine hK _ _ ?_
                clear hK K d0 d1 d2 d3 d4 d5 df
                try simp only [Act.put, List.setIfInBounds_toArray, List.set_cons_zero, List.set_cons_succ]
                refine t_tail (i := 0) rfl (by kernel_rfl) (by kernel_rfl) (by rfl) (fun K hK => ?_)
                obtain ⟨d0, d1, d2, d3, d4, d5, df⟩ := block_cells6 qx
                go_simp
                refine hK _ _ ?_
                clear hK K d0 d1 d2 d3 d4 d5 df
                try simp only [Act.put, List.setIfInBounds_toArray, List.set_cons_zero, List.set_cons_succ]
                refine t_tail (i := 2) rfl (by kernel_rfl) (by kernel_rfl) (by rfl) (fun K hK => ?_)
                obtain ⟨d0, d1, d2, d3, d4, d5, df⟩ := block_cells6 p5
                go_simp
                refine hK _ _ ?_
                clear hK K d0 d1 d2 d3 d4 d5 df
                change wpO _ _ _ _ _ _ _ ((((((((w3.setCell ⟨w.heap.size, 0, none⟩ (.bool rh)).setCell ⟨w.heap.size, 1, none⟩ (.int .i64 rv)).setCell ⟨w.heap.size, 2, none⟩ (.int .i64 rt)).setCell ⟨w.heap.size, 3, none⟩ (.string rS)).setCell ⟨w.heap.size, 4, none⟩ (.slice x1 y1 z1)).setCell ⟨w.heap.size, 5, none⟩ (.slice u1 o1 l1))).drew)
                rw [← HW4.out]
                try simp only [Act.put, List.setIfInBounds_toArray, List.set_cons_zero, List.set_cons_succ]
                refine t_tail (i := 3) rfl (by kernel_rfl) (by kernel_rfl) (by rfl) (fun K hK => ?_)
                obtain ⟨d0, d1, d2, d3, d4, d5, df⟩ := block_cells6 q6a
                go_simp
                refine hK _ _ ?_
                clear hK K d0 d1 d2 d3 d4 d5 df
                try simp only [Act.put, List.setIfInBounds_toArray, List.set_cons_zero, List.set_cons_succ]
                refine t_over (by kernel_rfl) ?_
                exact ⟨rfl, rfl, HW5.out.symm⟩
            try simp only [Act.put, List.setIfInBounds_toArray, List.set_cons_zero, List.set_cons_succ]
            have hw4 := HW4.out
            have hW5 := HW5.out
            have G5 : w4.grownBy W5 (some (w.heap.size + 1)) := by rw [hW5]; exact set6_grown
            have q5b : W5.heap[w.heap.size]? = some (.cells #[.bool rh, .int .i64 rv, .int .i64 rt, .string rS, .slice x1 y1 z1, .slice u1 o1 l1] 24 (0, 0)) := by rw [hW5]; exact (set6_old (by omega)).trans q5a
            have q6b : W5.heap[w.heap.size + 1]? = some (.cells #[.bool rh, .int .i64 rv, .int .i64 rt, .string rS, .slice x2 y2 z2, .slice u2 o2 l2] 24 (0, 0)) := by rw [hW5]; exact set6_new q6a
            have RX5 := rds_six q6a G5 RX4
            have RY5 := rds_six q6a G5 RY4
            have M5 := below_grownB M4 G5 M4.size (by omega)
            clear hW5 hw4 HW4 HW5 G4 qy4 G5 q5a q6a RX4 RY4 RX3 RY3 M4 N3 p5 p6 qx qy q5 q6 HRs HWs HMs HSs
            have FM0 := fun w' (g : Below W5.heap.size W5 w') => slMay_any (⟨rh, rv, rt, rb, rp, rc⟩ : Sl) (.slice x1 y1 z1) (.slice u1 o1 l1) w' (RX5.below g (Nat.le_refl _))
            have FP0 := fun w' (g : Below W5.heap.size W5 w') => prepared_any (⟨rh, rv, rt, rb, rp, rc⟩ : Sl) (.slice x1 y1 z1) (.slice u1 o1 l1) n w' (RX5.below g (Nat.le_refl _)) HN.out
            have FQ0 := fun w' (g : Below W5.heap.size W5 w') => refPrepared_any (⟨rh, rv, rt, rb, rp, rc⟩ : Sl) (.slice x2 y2 z2) (.slice u2 o2 l2) n w' (RY5.below g (Nat.le_refl _)) HN.out (len_ps HMr.out)
            have FC0 := fun w' (g : Below W5.heap.size W5 w') => committed_any (⟨rh, rv, rt, rb, rp, rc⟩ : Sl) (.slice x1 y1 z1) (.slice u1 o1 l1) n w' (RX5.below g (Nat.le_refl _)) HN.out
            have FD0 := fun w' (g : Below W5.heap.size W5 w') => refCommitted_any (⟨rh, rv, rt, rb, rp, rc⟩ : Sl) (.slice x2 y2 z2) (.slice u2 o2 l2) n w' (RY5.below g (Nat.le_refl _)) HN.out (len_ps HMr.out) (len_cs HMr.out)
            rw [HMr.out] at FM0
            unfold sV at FM0 FP0 FQ0 FC0 FD0
            simp only at FM0 FP0 FQ0 FC0 FD0
            rw [← HSr.out] at FM0 FP0 FQ0 FC0 FD0
            obtain ⟨PB, hPB⟩ : ∃ P, P = prepB (⟨rh, rv, rt, rb, rp, rc⟩ : Sl) n := ⟨_, rfl⟩
            obtain ⟨CB, hCB⟩ : ∃ P, P = comB (⟨rh, rv, rt, rb, rp, rc⟩ : Sl) n := ⟨_, rfl⟩
            rw [← hPB] at FP0 FQ0
            rw [← hCB] at FC0 FD0
            have FM := Lib.hid FM0
            have FP := Lib.hid FP0
            have FQ := Lib.hid FQ0
            have FC := Lib.hid FC0
            have FD := Lib.hid FD0
            clear FM0 FP0 FQ0 FC0 FD0 hPB hCB
            have K0 : Below W5.heap.size W5 W5.drew := (Below.refl _ _).drew
            replace q5b := show W5.drew.heap[w.heap.size]? = _ from q5b
            replace q6b := show W5.drew.heap[w.heap.size + 1]? = _ from q6b
            have HX5 := Lib.hid RX5
            have HY5 := Lib.hid RY5
            clear RX5 RY5
            go_upto_region 20 with fail
            refine g_start (by kernel_rfl) ?_
            refine g_take (i := 0) (d := (some 105)) (v := ?_) rfl rfl (by kernel_rfl) (fun _ _ _ h => h) (by rfl) (fun w' hb' => ?_) ?_
            rotate_left
            · obtain ⟨d0, d1, d2, d3, d4, d5, df⟩ := block_cells6 ((hb'.block _ (lt_of_block q5b)).trans q5b); (try go_simp); (try with_reducible rfl)
            try simp only [Act.put, List.setIfInBounds_toArray, List.set_cons_zero, List.set_cons_succ]
            refine g_run (i := 1) rfl (by kernel_rfl) (by rfl) (fun K hK => ?_)
            go_simp; refine (FM.out _ K0).mono ?_; rintro e v1 ⟨rfl, g⟩; have q5b_1 := (g.block _ (lt_of_block q5b)).trans q5b; have q6b_1 := (g.block _ (lt_of_block q6b)).trans q6b; have K1 := chain K0 g; refine hK _ _ ⟨g, ?_⟩; clear hK K g
            try simp only [Act.put, List.setIfInBounds_toArray, List.set_cons_zero, List.set_cons_succ]
            refine g_take (i := 2) (d := (some 107)) (v := ?_) rfl rfl (by kernel_rfl) (fun _ _ _ h => h) (by rfl) (fun w' hb' => ?_) ?_
            rotate_left
            · (try go_simp); (try with_reducible rfl)
            try simp only [Act.put, List.setIfInBounds_toArray, List.set_cons_zero, List.set_cons_succ]
            refine g_take (i := 3) (d := (some 108)) (v := ?_) rfl rfl (by kernel_rfl) (fun _ _ _ h => h) (by rfl) (fun w' hb' => ?_) ?_
            rotate_left
            · (try go_simp); (try with_reducible rfl)
            try simp only [Act.put, List.setIfInBounds_toArray, List.set_cons_zero, List.set_cons_succ]
            refine g_take (i := 4) (d := (some 109)) (v := ?_) rfl rfl (by kernel_rfl) (fun _ _ _ h => h) (by rfl) (fun w' hb' => ?_) ?_
            rotate_left
            · obtain ⟨d0, d1, d2, d3, d4, d5, df⟩ := block_cells6 ((hb'.block _ (lt_of_block q5b_1)).trans q5b_1); (try go_simp); (try with_reducible rfl)
            try simp only [Act.put, List.setIfInBounds_toArray, List.set_cons_zero, List.set_cons_succ]
            refine g_take (i := 5) (d := (some 110)) (v := ?_) rfl rfl (by kernel_rfl) (fun _ _ _ h => h) (by rfl) (fun w' hb' => ?_) ?_
            rotate_left
            · (try go_simp); (try with_reducible rfl)
            try simp only [Act.put, List.setIfInBounds_toArray, List.set_cons_zero, List.set_cons_succ]
            refine g_take (i := 7) (d := (some 112)) (v := ?_) rfl rfl (by kernel_rfl) (fun _ _ _ h => h) (by rfl) (fun w' hb' => ?_) ?_
            rotate_left
            · obtain ⟨d0, d1, d2, d3, d4, d5, df⟩ := block_cells6 ((hb'.block _ (lt_of_block q6b_1)).trans q6b_1); (try go_simp); (try with_reducible rfl)
            try simp only [Act.put, List.setIfInBounds_toArray, List.set_cons_zero, List.set_cons_succ]
            refine g_take (i := 8) (d := (some 113)) (v := ?_) rfl rfl (by kernel_rfl) (fun _ _ _ h => h) (by rfl) (fun w' hb' => ?_) ?_
            rotate_left
            · (try go_simp); (try with_reducible rfl)
            try simp only [Act.put, List.setIfInBounds_toArray, List.set_cons_zero, List.set_cons_succ]
            refine g_run (i := 6) rfl (by kernel_rfl) (by rfl) (fun K hK => ?_)
            go_simp; refine (FP.out _ K1).mono ?_; rintro e v2 ⟨rfl, g⟩; have q5b_2 := (g.block _ (lt_of_block q5b_1)).trans q5b_1; have q6b_2 := (g.block _ (lt_of_block q6b_1)).trans q6b_1; have K2 := chain K1 g; refine hK _ _ ⟨g, ?_⟩; clear hK K g
            try simp only [Act.put, List.setIfInBounds_toArray, List.set_cons_zero, List.set_cons_succ]
            refine g_run (i := 9) rfl (by kernel_rfl) (by rfl) (fun K hK => ?_)
            go_simp; refine (FQ.out _ K2).mono ?_; rintro e v3 ⟨rfl, g⟩; have q5b_3 := (g.block _ (lt_of_block q5b_2)).trans q5b_2; have q6b_3 := (g.block _ (lt_of_block q6b_2)).trans q6b_2; have K3 := chain K2 g; refine hK _ _ ⟨g, ?_⟩; clear hK K g
            try simp only [Act.put, List.setIfInBounds_toArray, List.set_cons_zero, List.set_cons_succ]
            refine g_take (i := 10) (d := (some 115)) (v := ?_) rfl rfl (by kernel_rfl) (fun _ _ _ h => h) (by rfl) (fun w' hb' => ?_) ?_
            rotate_left
            · (try go_simp); (try with_reducible rfl)
            try simp only [Act.put, List.setIfInBounds_toArray, List.set_cons_zero, List.set_cons_succ]
            refine g_take (i := 11) (d := (some 116)) (v := ?_) rfl rfl (by kernel_rfl) (fun _ _ _ h => h) (by rfl) (fun w' hb' => ?_) ?_
            rotate_left
            · (try go_simp); (try with_reducible rfl)
            try simp only [Act.put, List.setIfInBounds_toArray, List.set_cons_zero, List.set_cons_succ]
            refine g_take (i := 12) (d := (some 117)) (v := ?_) rfl rfl (by kernel_rfl) (fun _ _ _ h => h) (by rfl) (fun w' hb' => ?_) ?_
            rotate_left
            · (try go_simp); (try with_reducible rfl)
            try simp only [Act.put, List.setIfInBounds_toArray, List.set_cons_zero, List.set_cons_succ]
            refine g_take (i := 13) (d := (some 118)) (v := ?_) rfl rfl (by kernel_rfl) (fun _ _ _ h => h) (by rfl) (fun w' hb' => ?_) ?_
            rotate_left
            · obtain ⟨d0, d1, d2, d3, d4, d5, df⟩ := block_cells6 ((hb'.block _ (lt_of_block q5b_3)).trans q5b_3); (try go_simp); (try with_reducible rfl)
            try simp only [Act.put, List.setIfInBounds_toArray, List.set_cons_zero, List.set_cons_succ]
            refine g_take (i := 14) (d := (some 119)) (v := ?_) rfl rfl (by kernel_rfl) (fun _ _ _ h => h) (by rfl) (fun w' hb' => ?_) ?_
            rotate_left
            · (try go_simp); (try with_reducible rfl)
            try simp only [Act.put, List.setIfInBounds_toArray, List.set_cons_zero, List.set_cons_succ]
            refine g_take (i := 16) (d := (some 121)) (v := ?_) rfl rfl (by kernel_rfl) (fun _ _ _ h => h) (by rfl) (fun w' hb' => ?_) ?_
            rotate_left
            · obtain ⟨d0, d1, d2, d3, d4, d5, df⟩ := block_cells6 ((hb'.block _ (lt_of_block q6b_3)).trans q6b_3); (try go_simp); (try with_reducible rfl)
            try simp only [Act.put, List.setIfInBounds_toArray, List.set_cons_zero, List.set_cons_succ]
            refine g_take (i := 17) (d := (some 122)) (v := ?_) rfl rfl (by kernel_rfl) (fun _ _ _ h => h) (by rfl) (fun w' hb' => ?_) ?_
            rotate_left
            · (try go_simp); (try with_reducible rfl)
            try simp only [Act.put, List.setIfInBounds_toArray, List.set_cons_zero, List.set_cons_succ]
            refine g_run (i := 15) rfl (by kernel_rfl) (by rfl) (fun K hK => ?_)
            go_simp; refine (FC.out _ K3).mono ?_; rintro e v4 ⟨rfl, g⟩; have q5b_4 := (g.block _ (lt_of_block q5b_3)).trans q5b_3; have q6b_4 := (g.block _ (lt_of_block q6b_3)).trans q6b_3; have K4 := chain K3 g; refine hK _ _ ⟨g, ?_⟩; clear hK K g
            try simp only [Act.put, List.setIfInBounds_toArray, List.set_cons_zero, List.set_cons_succ]
            refine g_run (i := 18) rfl (by kernel_rfl) (by rfl) (fun K hK => ?_)
            go_simp; refine (FD.out _ K4).mono ?_; rintro e v5 ⟨rfl, g⟩; have q5b_5 := (g.block _ (lt_of_block q5b_4)).trans q5b_4; have q6b_5 := (g.block _ (lt_of_block q6b_4)).trans q6b_4; have K5 := chain K4 g; refine hK _ _ ⟨g, ?_⟩; clear hK K g
            try simp only [Act.put, List.setIfInBounds_toArray, List.set_cons_zero, List.set_cons_succ]
            refine g_take (i := 19) (d := (some 124)) (v := ?_) rfl rfl (by kernel_rfl) (fun _ _ _ h => h) (by rfl) (fun w' hb' => ?_) ?_
            rotate_left
            · (try go_simp); (try with_reducible rfl)
            try simp only [Act.put, List.setIfInBounds_toArray, List.set_cons_zero, List.set_cons_succ]
            refine g_take (i := 20) (d := (some 125)) (v := ?_) rfl rfl (by kernel_rfl) (fun _ _ _ h => h) (by rfl) (fun w' hb' => ?_) ?_
            rotate_left
            · (try go_simp); (try with_reducible rfl)
            try simp only [Act.put, List.setIfInBounds_toArray, List.set_cons_zero, List.set_cons_succ]
            refine g_done (by kernel_rfl) ?_
            go_wp2_with fail
            exact ⟨⟨k + 1, rh, rv, rt, rb, rp, rc, rS, x1, y1, z1, u1, o1, l1, x2, y2, z2, u2, o2, l2, by omega, by omega, by push_cast; rfl, HSr, q5b_5, q6b_5, Lib.hid (HX5.out.below K5 (Nat.le_refl _)), Lib.hid (HY5.out.below K5 (Nat.le_refl _)), HMr, chain M5 K5⟩, by simp [intOf]; omega⟩
          · obtain ⟨E, hEE⟩ : ∃ E : Int, E = (EN : Int) := ⟨_, rfl⟩
            have hE0 : (E == 0) = false := by rw [hEE]; simpa using hE
            rw [← hEE] at CX0 CY0
            have CX := Lib.hid CX0
            have CY := Lib.hid CY0
            clear CX0 CY0 HMr1 hE hEE
            have p5 := (N0.block _ (lt_of_block q5)).trans q5
            obtain ⟨d0, d1, d2, d3, d4, d5, df⟩ := block_cells6 p5
            obtain ⟨e0, e1, e2, ef⟩ := block_cells3 qv
            go_upto_region 15 with ((with_reducible refine (CX.out _ N0).mono ?_); rintro e w1 ⟨x1, y1, z1, u1, o1, l1, rfl, R1, g⟩; clear d0 d1 d2 d3 d4 d5 df e0 e1 e2 ef p5; (replace qx := (g.block _ (lt_of_block qx)).trans qx); (replace qv := (g.block _ (lt_of_block qv)).trans qv); (replace qy := (g.block _ (lt_of_block qy)).trans qy); (obtain ⟨d0, d1, d2, d3, d4, d5, df⟩ := block_cells6 qx))
            clear d0 d1 d2 d3 d4 d5 df
            obtain ⟨W1, hW1⟩ : ∃ W, W = ((((((w1.setCell ⟨wr.heap.size + 1, 0, none⟩ (.bool rh)).setCell ⟨wr.heap.size + 1, 1, none⟩ (.int .i64 rv)).setCell ⟨wr.heap.size + 1, 2, none⟩ (.int .i64 rt)).setCell ⟨wr.heap.size + 1, 3, none⟩ (.string rS)).setCell ⟨wr.heap.size + 1, 4, none⟩ (.slice x1 y1 z1)).setCell ⟨wr.heap.size + 1, 5, none⟩ (.slice u1 o1 l1)) := ⟨_, rfl⟩
            rw [← hW1]
            have GW1 : w1.grownBy W1 (some (wr.heap.size + 1)) := by rw [hW1]; exact set6_grown
            have NW1 := below_grownB (chain N0 g) GW1 (chain N0 g).size (by omega)
            have RXW1 := rds_six qx GW1 (R1)
            have qxn : W1.heap[wr.heap.size + 1]? = some (.cells #[.bool rh, .int .i64 rv, .int .i64 rt, .string rS, .slice x1 y1 z1, .slice u1 o1 l1] 24 (0, 0)) := by rw [hW1]; exact set6_new qx
            have qvn := (set6_old (w := w1) (B := wr.heap.size + 1) (k := wr.heap.size) (u0 := .bool rh) (u1 := .int .i64 rv) (u2 := .int .i64 rt) (u3 := .string rS) (u4 := .slice x1 y1 z1) (u5 := .slice u1 o1 l1) (by omega)).trans qv
            rw [← hW1] at qvn
            have qyn := (set6_old (w := w1) (B := wr.heap.size + 1) (k := wr.heap.size + 2) (u0 := .bool rh) (u1 := .int .i64 rv) (u2 := .int .i64 rt) (u3 := .string rS) (u4 := .slice x1 y1 z1) (u5 := .slice u1 o1 l1) (by omega)).trans qy
            rw [← hW1] at qyn
            clear hW1 GW1 qx qv qy
            have qx := qxn
            clear qxn
            have qv := qvn
            clear qvn
            have qy := qyn
            clear qyn
            clear R1 g N0 CX
            have p6 := (NW1.block _ (lt_of_block q6)).trans q6
            obtain ⟨d0, d1, d2, d3, d4, d5, df⟩ := block_cells6 p6
            obtain ⟨e0, e1, e2, ef⟩ := block_cells3 qv
            go_upto_region 16 with ((with_reducible refine (CY.out _ NW1).mono ?_); rintro e w2 ⟨x2, y2, z2, u2, o2, l2, rfl, R2, g⟩; clear d0 d1 d2 d3 d4 d5 df e0 e1 e2 ef p6; (replace qx := (g.block _ (lt_of_block qx)).trans qx); (replace qv := (g.block _ (lt_of_block qv)).trans qv); (replace qy := (g.block _ (lt_of_block qy)).trans qy); (obtain ⟨d0, d1, d2, d3, d4, d5, df⟩ := block_cells6 qy))
            clear d0 d1 d2 d3 d4 d5 df
            obtain ⟨W2, hW2⟩ : ∃ W, W = ((((((w2.setCell ⟨wr.heap.size + 2, 0, none⟩ (.bool rh)).setCell ⟨wr.heap.size + 2, 1, none⟩ (.int .i64 rv)).setCell ⟨wr.heap.size + 2, 2, none⟩ (.int .i64 rt)).setCell ⟨wr.heap.size + 2, 3, none⟩ (.string rS)).setCell ⟨wr.heap.size + 2, 4, none⟩ (.slice x2 y2 z2)).setCell ⟨wr.heap.size + 2, 5, none⟩ (.slice u2 o2 l2)) := ⟨_, rfl⟩
            rw [← hW2]
            have GW2 : w2.grownBy W2 (some (wr.heap.size + 2)) := by rw [hW2]; exact set6_grown
            have NW2 := below_grownB (chain NW1 g) GW2 (chain NW1 g).size (by omega)
            have RXW2 := rds_six qy GW2 (RXW1.below g (Nat.le_refl _))
            have RYW2 := rds_six qy GW2 (R2)
            have qyn : W2.heap[wr.heap.size + 2]? = some (.cells #[.bool rh, .int .i64 rv, .int .i64 rt, .string rS, .slice x2 y2 z2, .slice u2 o2 l2] 24 (0, 0)) := by rw [hW2]; exact set6_new qy
            have qvn := (set6_old (w := w2) (B := wr.heap.size + 2) (k := wr.heap.size) (u0 := .bool rh) (u1 := .int .i64 rv) (u2 := .int .i64 rt) (u3 := .string rS) (u4 := .slice x2 y2 z2) (u5 := .slice u2 o2 l2) (by omega)).trans qv
            rw [← hW2] at qvn
            have qxn := (set6_old (w := w2) (B := wr.heap.size + 2) (k := wr.heap.size + 1) (u0 := .bool rh) (u1 := .int .i64 rv) (u2 := .int .i64 rt) (u3 := .string rS) (u4 := .slice x2 y2 z2) (u5 := .slice u2 o2 l2) (by omega)).trans qx
            rw [← hW2] at qxn
            clear hW2 GW2 qy qv qx
            have qy := qyn
            clear qyn
            have qv := qvn
            clear qvn
            have qx := qxn
            clear qxn
            clear R2 g NW1 CY qv RXW1
            have SA0 := fun w' (g : Below W2.heap.size W2 w') => same_yes (⟨rh, rv, rt, rb, rp, rc⟩ : Sl) (.slice x1 y1 z1) (.slice u1 o1 l1) (.slice x2 y2 z2) (.slice u2 o2 l2) w' (RXW2.below g (Nat.le_refl _)) (RYW2.below g (Nat.le_refl _))
            unfold sV at SA0
            simp only at SA0
            rw [← HSr.out] at SA0
            have SA := Lib.hid SA0
            clear SA0
            obtain ⟨d0, d1, d2, d3, d4, d5, df⟩ := block_cells6 qx
            obtain ⟨e0, e1, e2, e3, e4, e5, ef⟩ := block_cells6 qy
            go_upto_region 20 with ((with_reducible refine (SA.out _ (Below.refl _ _)).mono ?_); rintro e w3 ⟨rfl, g⟩; clear d0 d1 d2 d3 d4 d5 df e0 e1 e2 e3 e4 e5 ef; (replace qx := (g.block _ (lt_of_block qx)).trans qx); (replace qy := (g.block _ (lt_of_block qy)).trans qy); (have RX3 := RXW2.below g (Nat.le_refl _)); (have RY3 := RYW2.below g (Nat.le_refl _)); (have N3 := chain NW2 g); clear g)
            clear RXW2 RYW2 NW2 SA RX3 RY3 qx qy HSr
            have q5b := (N3.block _ (lt_of_block q5)).trans q5
            have q6b := (N3.block _ (lt_of_block q6)).trans q6
            have RX5 := HRs.out.below N3 (Nat.le_refl _)
            have RY5 := HWs.out.below N3 (Nat.le_refl _)
            have M5 := chain BW N3
            clear q5 q6 HRs HWs N3 BW
            have FM0 := fun w' (g : Below w3.heap.size w3 w') => slMay_any (⟨sh, sv, st, sb, sp, sc⟩ : Sl) (.slice x5 y5 z5) (.slice u5 o5 l5) w' (RX5.below g (Nat.le_refl _))
            have FP0 := fun w' (g : Below w3.heap.size w3 w') => prepared_any (⟨sh, sv, st, sb, sp, sc⟩ : Sl) (.slice x5 y5 z5) (.slice u5 o5 l5) n w' (RX5.below g (Nat.le_refl _)) HN.out
            have FQ0 := fun w' (g : Below w3.heap.size w3 w') => refPrepared_any (⟨sh, sv, st, sb, sp, sc⟩ : Sl) (.slice x6 y6 z6) (.slice u6 o6 l6) n w' (RY5.below g (Nat.le_refl _)) HN.out (len_ps HMs.out)
            have FC0 := fun w' (g : Below w3.heap.size w3 w') => committed_any (⟨sh, sv, st, sb, sp, sc⟩ : Sl) (.slice x5 y5 z5) (.slice u5 o5 l5) n w' (RX5.below g (Nat.le_refl _)) HN.out
            have FD0 := fun w' (g : Below w3.heap.size w3 w') => refCommitted_any (⟨sh, sv, st, sb, sp, sc⟩ : Sl) (.slice x6 y6 z6) (.slice u6 o6 l6) n w' (RY5.below g (Nat.le_refl _)) HN.out (len_ps HMs.out) (len_cs HMs.out)
            rw [HMs.out] at FM0
            unfold sV at FM0 FP0 FQ0 FC0 FD0
            simp only at FM0 FP0 FQ0 FC0 FD0
            rw [← HSs.out] at FM0 FP0 FQ0 FC0 FD0
            obtain ⟨PB, hPB⟩ : ∃ P, P = prepB (⟨sh, sv, st, sb, sp, sc⟩ : Sl) n := ⟨_, rfl⟩
            obtain ⟨CB, hCB⟩ : ∃ P, P = comB (⟨sh, sv, st, sb, sp, sc⟩ : Sl) n := ⟨_, rfl⟩
            rw [← hPB] at FP0 FQ0
            rw [← hCB] at FC0 FD0
            have FM := Lib.hid FM0
            have FP := Lib.hid FP0
            have FQ := Lib.hid FQ0
            have FC := Lib.hid FC0
            have FD := Lib.hid FD0
            clear FM0 FP0 FQ0 FC0 FD0 hPB hCB
            have K0 : Below w3.heap.size w3 w3.drew := (Below.refl _ _).drew
            replace q5b := show w3.drew.heap[w.heap.size]? = _ from q5b
            replace q6b := show w3.drew.heap[w.heap.size + 1]? = _ from q6b
            have HX5 := Lib.hid RX5
            have HY5 := Lib.hid RY5
            clear RX5 RY5
            refine g_start (by kernel_rfl) ?_
            refine g_take (i := 0) (d := (some 105)) (v := ?_) rfl rfl (by kernel_rfl) (fun _ _ _ h => h) (by rfl) (fun w' hb' => ?_) ?_
            rotate_left
            · obtain ⟨d0, d1, d2, d3, d4, d5, df⟩ := block_cells6 ((hb'.block _ (lt_of_block q5b)).trans q5b); (try go_simp); (try with_reducible rfl)
            try simp only [Act.put, List.setIfInBounds_toArray, List.set_cons_zero, List.set_cons_succ]
            refine g_run (i := 1) rfl (by kernel_rfl) (by rfl) (fun K hK => ?_)
            go_simp; refine (FM.out _ K0).mono ?_; rintro e v1 ⟨rfl, g⟩; have q5b_1 := (g.block _ (lt_of_block q5b)).trans q5b; have q6b_1 := (g.block _ (lt_of_block q6b)).trans q6b; have K1 := chain K0 g; refine hK _ _ ⟨g, ?_⟩; clear hK K g
            try simp only [Act.put, List.setIfInBounds_toArray, List.set_cons_zero, List.set_cons_succ]
            refine g_take (i := 2) (d := (some 107)) (v := ?_) rfl rfl (by kernel_rfl) (fun _ _ _ h => h) (by rfl) (fun w' hb' => ?_) ?_
            rotate_left
            · (try go_simp); (try with_reducible rfl)
            try simp only [Act.put, List.setIfInBounds_toArray, List.set_cons_zero, List.set_cons_succ]
            refine g_take (i := 3) (d := (some 108)) (v := ?_) rfl rfl (by kernel_rfl) (fun _ _ _ h => h) (by rfl) (fun w' hb' => ?_) ?_
            rotate_left
            · (try go_simp); (try with_reducible rfl)
            try simp only [Act.put, List.setIfInBounds_toArray, List.set_cons_zero, List.set_cons_succ]
            refine g_take (i := 4) (d := (some 109)) (v := ?_) rfl rfl (by kernel_rfl) (fun _ _ _ h => h) (by rfl) (fun w' hb' => ?_) ?_
            rotate_left
            · obtain ⟨d0, d1, d2, d3, d4, d5, df⟩ := block_cells6 ((hb'.block _ (lt_of_block q5b_1)).trans q5b_1); (try go_simp); (try with_reducible rfl)
            try simp only [Act.put, List.setIfInBounds_toArray, List.set_cons_zero, List.set_cons_succ]
            refine g_take (i := 5) (d := (some 110)) (v := ?_) rfl rfl (by kernel_rfl) (fun _ _ _ h => h) (by rfl) (fun w' hb' => ?_) ?_
            rotate_left
            · (try go_simp); (try with_reducible rfl)
            try simp only [Act.put, List.setIfInBounds_toArray, List.set_cons_zero, List.set_cons_succ]
            refine g_take (i := 7) (d := (some 112)) (v := ?_) rfl rfl (by kernel_rfl) (fun _ _ _ h => h) (by rfl) (fun w' hb' => ?_) ?_
            rotate_left
            · obtain ⟨d0, d1, d2, d3, d4, d5, df⟩ := block_cells6 ((hb'.block _ (lt_of_block q6b_1)).trans q6b_1); (try go_simp); (try with_reducible rfl)
            try simp only [Act.put, List.setIfInBounds_toArray, List.set_cons_zero, List.set_cons_succ]
            refine g_take (i := 8) (d := (some 113)) (v := ?_) rfl rfl (by kernel_rfl) (fun _ _ _ h => h) (by rfl) (fun w' hb' => ?_) ?_
            rotate_left
            · (try go_simp); (try with_reducible rfl)
            try simp only [Act.put, List.setIfInBounds_toArray, List.set_cons_zero, List.set_cons_succ]
            refine g_run (i := 6) rfl (by kernel_rfl) (by rfl) (fun K hK => ?_)
            go_simp; refine (FP.out _ K1).mono ?_; rintro e v2 ⟨rfl, g⟩; have q5b_2 := (g.block _ (lt_of_block q5b_1)).trans q5b_1; have q6b_2 := (g.block _ (lt_of_block q6b_1)).trans q6b_1; have K2 := chain K1 g; refine hK _ _ ⟨g, ?_⟩; clear hK K g
            try simp only [Act.put, List.setIfInBounds_toArray, List.set_cons_zero, List.set_cons_succ]
            refine g_run (i := 9) rfl (by kernel_rfl) (by rfl) (fun K hK => ?_)
            go_simp; refine (FQ.out _ K2).mono ?_; rintro e v3 ⟨rfl, g⟩; have q5b_3 := (g.block _ (lt_of_block q5b_2)).trans q5b_2; have q6b_3 := (g.block _ (lt_of_block q6b_2)).trans q6b_2; have K3 := chain K2 g; refine hK _ _ ⟨g, ?_⟩; clear hK K g
            try simp only [Act.put, List.setIfInBounds_toArray, List.set_cons_zero, List.set_cons_succ]
            refine g_take (i := 10) (d := (some 115)) (v := ?_) rfl rfl (by kernel_rfl) (fun _ _ _ h => h) (by rfl) (fun w' hb' => ?_) ?_
            rotate_left
            · (try go_simp); (try with_reducible rfl)
            try simp only [Act.put, List.setIfInBounds_toArray, List.set_cons_zero, List.set_cons_succ]
            refine g_take (i := 11) (d := (some 116)) (v := ?_) rfl rfl (by kernel_rfl) (fun _ _ _ h => h) (by rfl) (fun w' hb' => ?_) ?_
            rotate_left
            · (try go_simp); (try with_reducible rfl)
            try simp only [Act.put, List.setIfInBounds_toArray, List.set_cons_zero, List.set_cons_succ]
            refine g_take (i := 12) (d := (some 117)) (v := ?_) rfl rfl (by kernel_rfl) (fun _ _ _ h => h) (by rfl) (fun w' hb' => ?_) ?_
            rotate_left
            · (try go_simp); (try with_reducible rfl)
            try simp only [Act.put, List.setIfInBounds_toArray, List.set_cons_zero, List.set_cons_succ]
            refine g_take (i := 13) (d := (some 118)) (v := ?_) rfl rfl (by kernel_rfl) (fun _ _ _ h => h) (by rfl) (fun w' hb' => ?_) ?_
            rotate_left
            · obtain ⟨d0, d1, d2, d3, d4, d5, df⟩ := block_cells6 ((hb'.block _ (lt_of_block q5b_3)).trans q5b_3); (try go_simp); (try with_reducible rfl)
            try simp only [Act.put, List.setIfInBounds_toArray, List.set_cons_zero, List.set_cons_succ]
            refine g_take (i := 14) (d := (some 119)) (v := ?_) rfl rfl (by kernel_rfl) (fun _ _ _ h => h) (by rfl) (fun w' hb' => ?_) ?_
            rotate_left
            · (try go_simp); (try with_reducible rfl)
            try simp only [Act.put, List.setIfInBounds_toArray, List.set_cons_zero, List.set_cons_succ]
            refine g_take (i := 16) (d := (some 121)) (v := ?_) rfl rfl (by kernel_rfl) (fun _ _ _ h => h) (by rfl) (fun w' hb' => ?_) ?_
            rotate_left
            · obtain ⟨d0, d1, d2, d3, d4, d5, df⟩ := block_cells6 ((hb'.block _ (lt_of_block q6b_3)).trans q6b_3); (try go_simp); (try with_reducible rfl)
            try simp only [Act.put, List.setIfInBounds_toArray, List.set_cons_zero, List.set_cons_succ]
            refine g_take (i := 17) (d := (some 122)) (v := ?_) rfl rfl (by kernel_rfl) (fun _ _ _ h => h) (by rfl) (fun w' hb' => ?_) ?_
            rotate_left
            · (try go_simp); (try with_reducible rfl)
            try simp only [Act.put, List.setIfInBounds_toArray, List.set_cons_zero, List.set_cons_succ]
            refine g_run (i := 15) rfl (by kernel_rfl) (by rfl) (fun K hK => ?_)
            go_simp; refine (FC.out _ K3).mono ?_; rintro e v4 ⟨rfl, g⟩; have q5b_4 := (g.block _ (lt_of_block q5b_3)).trans q5b_3; have q6b_4 := (g.block _ (lt_of_block q6b_3)).trans q6b_3; have K4 := chain K3 g; refine hK _ _ ⟨g, ?_⟩; clear hK K g
            try simp only [Act.put, List.setIfInBounds_toArray, List.set_cons_zero, List.set_cons_succ]
            refine g_run (i := 18) rfl (by kernel_rfl) (by rfl) (fun K hK => ?_)
            go_simp; refine (FD.out _ K4).mono ?_; rintro e v5 ⟨rfl, g⟩; have q5b_5 := (g.block _ (lt_of_block q5b_4)).trans q5b_4; have q6b_5 := (g.block _ (lt_of_block q6b_4)).trans q6b_4; have K5 := chain K4 g; refine hK _ _ ⟨g, ?_⟩; clear hK K g
            try simp only [Act.put, List.setIfInBounds_toArray, List.set_cons_zero, List.set_cons_succ]
            refine g_take (i := 19) (d := (some 124)) (v := ?_) rfl rfl (by kernel_rfl) (fun _ _ _ h => h) (by rfl) (fun w' hb' => ?_) ?_
            rotate_left
            · (try go_simp); (try with_reducible rfl)
            try simp only [Act.put, List.setIfInBounds_toArray, List.set_cons_zero, List.set_cons_succ]
            refine g_take (i := 20) (d := (some 125)) (v := ?_) rfl rfl (by kernel_rfl) (fun _ _ _ h => h) (by rfl) (fun w' hb' => ?_) ?_
            rotate_left
            · (try go_simp); (try with_reducible rfl)
            try simp only [Act.put, List.setIfInBounds_toArray, List.set_cons_zero, List.set_cons_succ]
            refine g_done (by kernel_rfl) ?_
            go_wp2_with fail
            exact ⟨⟨k + 1, sh, sv, st, sb, sp, sc, sS, x5, y5, z5, u5, o5, l5, x6, y6, z6, u6, o6, l6, by omega, by omega, by push_cast; rfl, HSs, q5b_5, q6b_5, Lib.hid (HX5.out.below K5 (Nat.le_refl _)), Lib.hid (HY5.out.below K5 (Nat.le_refl _)), HMs, chain M5 K5⟩, by simp [intOf]; omega⟩
        · clear PR
          obtain ⟨Pn, hPn⟩ : ∃ P, P = primZ b n := ⟨_, rfl⟩
          rw [← hPn] at PR0 hp1
          have PR := Lib.hid PR0
          clear hPn PR0 hp
          refine g_start (by kernel_rfl) ?_
          refine g_take (i := 0) (d := (some 63)) (v := ?_) rfl rfl (by kernel_rfl) (fun _ _ _ h => h) (by rfl) (fun w' hb' => ?_) ?_
          rotate_left
          · (try go_simp); (try with_reducible rfl)
          try simp only [Act.put, List.setIfInBounds_toArray, List.set_cons_zero, List.set_cons_succ]
          refine g_take (i := 1) (d := (some 64)) (v := ?_) rfl rfl (by kernel_rfl) (fun _ _ _ h => h) (by rfl) (fun w' hb' => ?_) ?_
          rotate_left
          · obtain ⟨e0, e1, e2, ef⟩ := block_cells3 ((hb'.block _ (lt_of_block qv)).trans qv); (try go_simp); (try with_reducible rfl)
          try simp only [Act.put, List.setIfInBounds_toArray, List.set_cons_zero, List.set_cons_succ]
          refine g_take (i := 2) (d := (some 65)) (v := ?_) rfl rfl (by kernel_rfl) (fun _ _ _ h => h) (by rfl) (fun w' hb' => ?_) ?_
          rotate_left
          · (try go_simp); (try with_reducible rfl)
          try simp only [Act.put, List.setIfInBounds_toArray, List.set_cons_zero, List.set_cons_succ]
          refine g_take (i := 4) (d := (some 67)) (v := ?_) rfl rfl (by kernel_rfl) (fun _ _ _ h => h) (by rfl) (fun w' hb' => ?_) ?_
          rotate_left
          · (try go_simp); (try with_reducible rfl)
          try simp only [Act.put, List.setIfInBounds_toArray, List.set_cons_zero, List.set_cons_succ]
          refine g_take (i := 5) (d := (some 68)) (v := ?_) rfl rfl (by kernel_rfl) (fun _ _ _ h => h) (by rfl) (fun w' hb' => ?_) ?_
          rotate_left
          · obtain ⟨e0, e1, e2, ef⟩ := block_cells3 ((hb'.block _ (lt_of_block qv)).trans qv); (try go_simp); (try with_reducible rfl)
          try simp only [Act.put, List.setIfInBounds_toArray, List.set_cons_zero, List.set_cons_succ]
          refine g_run (i := 3) rfl (by kernel_rfl) (by rfl) (fun K hK => ?_)
          go_simp; refine (PR.out _).mono ?_; rintro e v9 ⟨rfl, rfl⟩; refine hK _ _ ⟨Below.refl _ _, ?_⟩; clear hK K
          try simp only [Act.put, List.setIfInBounds_toArray, List.set_cons_zero, List.set_cons_succ]
          refine g_take (i := 6) (d := (some 69)) (v := ?_) rfl rfl (by kernel_rfl) (fun _ _ _ h => h) (by rfl) (fun w' hb' => ?_) ?_
          rotate_left
          · (try go_simp); (try with_reducible rfl)
          try simp only [Act.put, List.setIfInBounds_toArray, List.set_cons_zero, List.set_cons_succ]
          refine g_take (i := 7) (d := (some 70)) (v := ?_) rfl rfl (by kernel_rfl) (fun _ _ _ h => h) (by rfl) (fun w' hb' => ?_) ?_
          rotate_left
          · (try go_simp); (try with_reducible rfl)
          try simp only [Act.put, List.setIfInBounds_toArray, List.set_cons_zero, List.set_cons_succ]
          refine g_take (i := 8) (d := (some 71)) (v := ?_) rfl rfl (by kernel_rfl) (fun _ _ _ h => h) (by rfl) (fun w' hb' => ?_) ?_
          rotate_left
          · (try go_simp); (try with_reducible rfl)
          try simp only [Act.put, List.setIfInBounds_toArray, List.set_cons_zero, List.set_cons_succ]
          refine g_take (i := 9) (d := (some 72)) (v := ?_) rfl rfl (by kernel_rfl) (fun _ _ _ h => h) (by rfl) (fun w' hb' => ?_) ?_
          rotate_left
          · (try go_simp); (try with_reducible rfl)
          try simp only [Act.put, List.setIfInBounds_toArray, List.set_cons_zero, List.set_cons_succ]
          refine g_take (i := 10) (d := (some 73)) (v := ?_) rfl rfl (by kernel_rfl) (fun _ _ _ h => h) (by rfl) (fun w' hb' => ?_) ?_
          rotate_left
          · (try go_simp); (try with_reducible rfl)
          try simp only [Act.put, List.setIfInBounds_toArray, List.set_cons_zero, List.set_cons_succ]
          refine g_take (i := 11) (d := (some 62)) (v := ?_) rfl rfl (by kernel_rfl) (fun _ _ _ h => h) (by rfl) (fun w' hb' => ?_) ?_
          rotate_left
          · (try go_simp); (try with_reducible rfl)
          try simp only [Act.put, List.setIfInBounds_toArray, List.set_cons_zero, List.set_cons_succ]
          refine g_done (by kernel_rfl) ?_
          obtain ⟨V1, hV1⟩ : ∃ V, V = V0.drew := ⟨_, rfl⟩
          rw [← hV1]
          replace qv : V1.heap[wr.heap.size]? = some (.cells #[.int .i64 a, .int .i64 b, .int .i64 c] 26 (0, 0)) := by rw [hV1]; exact qv
          replace qx : V1.heap[wr.heap.size + 1]? = some (.cells #[.bool false, .int .i64 0, .int .i64 0, .string ⟨#[]⟩, .slice none 0 0, .slice none 0 0] 24 (0, 0)) := by rw [hV1]; exact qx
          replace qy : V1.heap[wr.heap.size + 2]? = some (.cells #[.bool false, .int .i64 0, .int .i64 0, .string ⟨#[]⟩, .slice none 0 0, .slice none 0 0] 24 (0, 0)) := by rw [hV1]; exact qy
          replace N0 : Below wr.heap.size wr V1 := by rw [hV1]; exact N0.drew
          clear hV1
          have CX0 := fun w' (g : Below wr.heap.size wr w') => (prep_any (⟨sh, sv, st, sb, sp, sc⟩ : Sl) (.slice x5 y5 z5) (.slice u5 o5 l5) (⟨a, b, c⟩ : Vt) w' (HRs.out.below g (Nat.le_refl _))).mono (fun _ _ => gq_p)
          have CY0 := fun w' (g : Below wr.heap.size wr w') => (rprep_any (⟨sh, sv, st, sb, sp, sc⟩ : Sl) (.slice x6 y6 z6) (.slice u6 o6 l6) (⟨a, b, c⟩ : Vt) w' (HWs.out.below g (Nat.le_refl _))).mono (fun _ _ => gq_r)
          have HMr0 := fun e => prepR_may (s := (⟨sh, sv, st, sb, sp, sc⟩ : Sl)) (v := ⟨a, b, c⟩) e
          unfold sV vtV at CX0 CY0
          simp only at CX0 CY0 HMr0
          rw [← HSs.out] at CX0 CY0

          obtain ⟨R, hR⟩ : ∃ R, R = prepR (⟨sh, sv, st, sb, sp, sc⟩ : Sl) (⟨a, b, c⟩ : Vt) := ⟨_, rfl⟩
          obtain ⟨EN, hEN⟩ : ∃ E : Nat, E = castE (⟨sh, sv, st, sb, sp, sc⟩ : Sl) sp (⟨a, b, c⟩ : Vt) := ⟨_, rfl⟩
          rw [← hR, ← hEN] at CX0 CY0 HMr0
          clear hR hEN
          obtain ⟨rh, rv, rt, rb, rp, rc⟩ := R
          simp only at CX0 CY0
          obtain ⟨rS, hrS⟩ : ∃ S, S = str rb := ⟨_, rfl⟩
          rw [← hrS] at CX0 CY0
          have HSr := Lib.hid hrS
          have HMr1 := Lib.hid HMr0
          clear HMr0 hrS
          by_cases hE : EN = 0
          · have HMr := Lib.hid (HMr1.out hE)
            rw [hE, show ((0 : Nat) : Int) = 0 from rfl] at CX0 CY0
            have CX := Lib.hid CX0
            have CY := Lib.hid CY0
            clear CX0 CY0 HMr1 hE EN
            have p5 := (N0.block _ (lt_of_block q5)).trans q5
            obtain ⟨d0, d1, d2, d3, d4, d5, df⟩ := block_cells6 p5
            obtain ⟨e0, e1, e2, ef⟩ := block_cells3 qv
            go_upto_region 9 with ((with_reducible refine (CX.out _ N0).mono ?_); rintro e w1 ⟨x1, y1, z1, u1, o1, l1, rfl, R1, g⟩; clear d0 d1 d2 d3 d4 d5 df e0 e1 e2 ef p5; (replace qx := (g.block _ (lt_of_block qx)).trans qx); (replace qv := (g.block _ (lt_of_block qv)).trans qv); (replace qy := (g.block _ (lt_of_block qy)).trans qy); (obtain ⟨d0, d1, d2, d3, d4, d5, df⟩ := block_cells6 qx))
            clear d0 d1 d2 d3 d4 d5 df
            obtain ⟨W1, hW1⟩ : ∃ W, W = ((((((w1.setCell ⟨wr.heap.size + 1, 0, none⟩ (.bool rh)).setCell ⟨wr.heap.size + 1, 1, none⟩ (.int .i64 rv)).setCell ⟨wr.heap.size + 1, 2, none⟩ (.int .i64 rt)).setCell ⟨wr.heap.size + 1, 3, none⟩ (.string rS)).setCell ⟨wr.heap.size + 1, 4, none⟩ (.slice x1 y1 z1)).setCell ⟨wr.heap.size + 1, 5, none⟩ (.slice u1 o1 l1)) := ⟨_, rfl⟩
            rw [← hW1]
            have GW1 : w1.grownBy W1 (some (wr.heap.size + 1)) := by rw [hW1]; exact set6_grown
            have NW1 := below_grownB (chain N0 g) GW1 (chain N0 g).size (by omega)
            have RXW1 := rds_six qx GW1 (R1)
            have qxn : W1.heap[wr.heap.size + 1]? = some (.cells #[.bool rh, .int .i64 rv, .int .i64 rt, .string rS, .slice x1 y1 z1, .slice u1 o1 l1] 24 (0, 0)) := by rw [hW1]; exact set6_new qx
            have qvn := (set6_old (w := w1) (B := wr.heap.size + 1) (k := wr.heap.size) (u0 := .bool rh) (u1 := .int .i64 rv) (u2 := .int .i64 rt) (u3 := .string rS) (u4 := .slice x1 y1 z1) (u5 := .slice u1 o1 l1) (by omega)).trans qv
            rw [← hW1] at qvn
            have qyn := (set6_old (w := w1) (B := wr.heap.size + 1) (k := wr.heap.size + 2) (u0 := .bool rh) (u1 := .int .i64 rv) (u2 := .int .i64 rt) (u3 := .string rS) (u4 := .slice x1 y1 z1) (u5 := .slice u1 o1 l1) (by omega)).trans qy
            rw [← hW1] at qyn
            clear hW1 GW1 qx qv qy
            have qx := qxn
            clear qxn
            have qv := qvn
            clear qvn
            have qy := qyn
            clear qyn
            clear R1 g N0 CX
            have p6 := (NW1.block _ (lt_of_block q6)).trans q6
            obtain ⟨d0, d1, d2, d3, d4, d5, df⟩ := block_cells6 p6
            obtain ⟨e0, e1, e2, ef⟩ := block_cells3 qv
            go_upto_region 16 with ((with_reducible refine (CY.out _ NW1).mono ?_); rintro e w2 ⟨x2, y2, z2, u2, o2, l2, rfl, R2, g⟩; clear d0 d1 d2 d3 d4 d5 df e0 e1 e2 ef p6; (replace qx := (g.block _ (lt_of_block qx)).trans qx); (replace qv := (g.block _ (lt_of_block qv)).trans qv); (replace qy := (g.block _ (lt_of_block qy)).trans qy); (obtain ⟨d0, d1, d2, d3, d4, d5, df⟩ := block_cells6 qy))
            clear d0 d1 d2 d3 d4 d5 df
            obtain ⟨W2, hW2⟩ : ∃ W, W = ((((((w2.setCell ⟨wr.heap.size + 2, 0, none⟩ (.bool rh)).setCell ⟨wr.heap.size + 2, 1, none⟩ (.int .i64 rv)).setCell ⟨wr.heap.size + 2, 2, none⟩ (.int .i64 rt)).setCell ⟨wr.heap.size + 2, 3, none⟩ (.string rS)).setCell ⟨wr.heap.size + 2, 4, none⟩ (.slice x2 y2 z2)).setCell ⟨wr.heap.size + 2, 5, none⟩ (.slice u2 o2 l2)) := ⟨_, rfl⟩
            rw [← hW2]
            have GW2 : w2.grownBy W2 (some (wr.heap.size + 2)) := by rw [hW2]; exact set6_grown
            have NW2 := below_grownB (chain NW1 g) GW2 (chain NW1 g).size (by omega)
            have RXW2 := rds_six qy GW2 (RXW1.below g (Nat.le_refl _))
            have RYW2 := rds_six qy GW2 (R2)
            have qyn : W2.heap[wr.heap.size + 2]? = some (.cells #[.bool rh, .int .i64 rv, .int .i64 rt, .string rS, .slice x2 y2 z2, .slice u2 o2 l2] 24 (0, 0)) := by rw [hW2]; exact set6_new qy
            have qvn := (set6_old (w := w2) (B := wr.heap.size + 2) (k := wr.heap.size) (u0 := .bool rh) (u1 := .int .i64 rv) (u2 := .int .i64 rt) (u3 := .string rS) (u4 := .slice x2 y2 z2) (u5 := .slice u2 o2 l2) (by omega)).trans qv
            rw [← hW2] at qvn
            have qxn := (set6_old (w := w2) (B := wr.heap.size + 2) (k := wr.heap.size + 1) (u0 := .bool rh) (u1 := .int .i64 rv) (u2 := .int .i64 rt) (u3 := .string rS) (u4 := .slice x2 y2 z2) (u5 := .slice u2 o2 l2) (by omega)).trans qx
            rw [← hW2] at qxn
            clear hW2 GW2 qy qv qx
            have qy := qyn
            clear qyn
            have qv := qvn
            clear qvn
            have qx := qxn
            clear qxn
            clear R2 g NW1 CY qv RXW1
            have SA0 := fun w' (g : Below W2.heap.size W2 w') => same_yes (⟨rh, rv, rt, rb, rp, rc⟩ : Sl) (.slice x1 y1 z1) (.slice u1 o1 l1) (.slice x2 y2 z2) (.slice u2 o2 l2) w' (RXW2.below g (Nat.le_refl _)) (RYW2.below g (Nat.le_refl _))
            unfold sV at SA0
            simp only at SA0
            rw [← HSr.out] at SA0
            have SA := Lib.hid SA0
            clear SA0
            obtain ⟨d0, d1, d2, d3, d4, d5, df⟩ := block_cells6 qx
            obtain ⟨e0, e1, e2, e3, e4, e5, ef⟩ := block_cells6 qy
            go_upto_region 19 with ((with_reducible refine (SA.out _ (Below.refl _ _)).mono ?_); rintro e w3 ⟨rfl, g⟩; clear d0 d1 d2 d3 d4 d5 df e0 e1 e2 e3 e4 e5 ef; (replace qx := (g.block _ (lt_of_block qx)).trans qx); (replace qy := (g.block _ (lt_of_block qy)).trans qy); (have RX3 := RXW2.below g (Nat.le_refl _)); (have RY3 := RYW2.below g (Nat.le_refl _)); (have N3 := chain NW2 g); clear g)
            clear RXW2 RYW2 NW2 SA
            have p5 := (N3.block _ (lt_of_block q5)).trans q5
            have p6 := (N3.block _ (lt_of_block q6)).trans q6
            obtain ⟨w4, hw4⟩ : ∃ W, W = (((((((w3.setCell ⟨w.heap.size, 0, none⟩ (.bool rh)).setCell ⟨w.heap.size, 1, none⟩ (.int .i64 rv)).setCell ⟨w.heap.size, 2, none⟩ (.int .i64 rt)).setCell ⟨w.heap.size, 3, none⟩ (.string rS)).setCell ⟨w.heap.size, 4, none⟩ (.slice x1 y1 z1)).setCell ⟨w.heap.size, 5, none⟩ (.slice u1 o1 l1))).drew := ⟨_, rfl⟩
            obtain ⟨W5, hW5⟩ : ∃ W, W = ((((((w4.setCell ⟨w.heap.size + 1, 0, none⟩ (.bool rh)).setCell ⟨w.heap.size + 1, 1, none⟩ (.int .i64 rv)).setCell ⟨w.heap.size + 1, 2, none⟩ (.int .i64 rt)).setCell ⟨w.heap.size + 1, 3, none⟩ (.string rS)).setCell ⟨w.heap.size + 1, 4, none⟩ (.slice x2 y2 z2)).setCell ⟨w.heap.size + 1, 5, none⟩ (.slice u2 o2 l2)) := ⟨_, rfl⟩
            have G4 : w3.grownBy w4 (some (w.heap.size)) := by rw [hw4]; exact grown_drewB set6_grown
            have M4 := below_grownB (chain BW N3) G4 (chain BW N3).size (Nat.le_refl _)
            have q5a : w4.heap[w.heap.size]? = some (.cells #[.bool rh, .int .i64 rv, .int .i64 rt, .string rS, .slice x1 y1 z1, .slice u1 o1 l1] 24 (0, 0)) := by rw [hw4, drew_heapZ]; exact set6_new p5
            have q6a : w4.heap[w.heap.size + 1]? = some (.cells #[.bool sh, .int .i64 sv, .int .i64 st, .string sS, .slice x6 y6 z6, .slice u6 o6 l6] 24 (0, 0)) := by rw [hw4, drew_heapZ]; exact (set6_old (by omega)).trans p6
            have qy4 : w4.heap[wr.heap.size + 2]? = some (.cells #[.bool rh, .int .i64 rv, .int .i64 rt, .string rS, .slice x2 y2 z2, .slice u2 o2 l2] 24 (0, 0)) := by rw [hw4, drew_heapZ]; exact (set6_old (by omega)).trans qy
            have RX4 := rds_six p5 G4 RX3
            have RY4 := rds_six p5 G4 RY3
            have HW4 := Lib.hid hw4
            have HW5 := Lib.hid hW5
            clear hw4 hW5
            refine region_two (some 103) (some 104) (.agg #[.bool rh, .int .i64 rv, .int .i64 rt, .string rS, .slice x1 y1 z1, .slice u1 o1 l1]) (.agg #[.bool rh, .int .i64 rv, .int .i64 rt, .string rS, .slice x2 y2 z2, .slice u2 o2 l2]) W5 ?_ ?_
            · skip
              refine e_start (by kernel_rfl) ?_
              refine t_tail2 (i := 0) (k := 1) rfl rfl (by kernel_rfl) (by kernel_rfl) (by rfl) (by rfl) (fun K hK => ?_) (fun K hK => ?_)
              · skip
                obtain ⟨d0, d1, d2, d3, d4, d5, df⟩ := block_cells6 qx
                go_simp
                refine hK _ _ ?_
                clear hK K d0 d1 d2 d3 d4 d5 df
                try simp only [Act.put, List.setIfInBounds_toArray, List.set_cons_zero, List.set_cons_succ]
                refine t_tail2 (i := 1) (k := 2) rfl rfl (by kernel_rfl) (by kernel_rfl) (by rfl) (by rfl) (fun K hK => ?_) (fun K hK => ?_)
                · skip
                  obtain ⟨d0, d1, d2, d3, d4, d5, df⟩ := block_cells6 qy
                  go_simp
                  refine hK _ _ ?_
                  clear hK K d0 d1 d2 d3 d4 d5 df
                  try simp only [Act.put, List.setIfInBounds_toArray, List.set_cons_zero, List.set_cons_succ]
                  refine t_tail (i := 2) rfl (by kernel_rfl) (by kernel_rfl) (by rfl) (fun K hK => ?_)
                  obtain ⟨d0, d1, d2, d3, d4, d5, df⟩ := block_cells6 p5
                  go_simp
                  refine hK _ _ ?_
                  clear hK K d0 d1 d2 d3 d4 d5 df
                  change wpO _ _ _ _ _ _ _ ((((((((w3.setCell ⟨w.heap.size, 0, none⟩ (.bool rh)).setCell ⟨w.heap.size, 1, none⟩ (.int .i64 rv)).setCell ⟨w.heap.size, 2, none⟩ (.int .i64 rt)).setCell ⟨w.heap.size, 3, none⟩ (.string rS)).setCell ⟨w.heap.size, 4, none⟩ (.slice x1 y1 z1)).setCell ⟨w.heap.size, 5, none⟩ (.slice u1 o1 l1))).drew)
                  rw [← HW4.out]
                  try simp only [Act.put, List.setIfInBounds_toArray, List.set_cons_zero, List.set_cons_succ]
                  refine t_tail (i := 3) rfl (by kernel_rfl) (by kernel_rfl) (by rfl) (fun K hK => ?_)
                  obtain ⟨d0, d1, d2, d3, d4, d5, df⟩ := block_cells6 q6a
                  go_simp
                  refine hK _ _ ?_
                  clear hK K d0 d1 d2 d3 d4 d5 df
                  try simp only [Act.put, List.setIfInBounds_toArray, List.set_cons_zero, List.set_cons_succ]
                  refine t_over (by kernel_rfl) ?_
                  exact ⟨rfl, rfl, HW5.out.symm⟩
                · skip
                  obtain ⟨d0, d1, d2, d3, d4, d5, df⟩ := block_cells6 p5
                  go_simp
                  refine hK _ _ ?_
                  clear hK K d0 d1 d2 d3 d4 d5 df
                  change wpO _ _ _ _ _ _ _ ((((((((w3.setCell ⟨w.heap.size, 0, none⟩ (.bool rh)).setCell ⟨w.heap.size, 1, none⟩ (.int .i64 rv)).setCell ⟨w.heap.size, 2, none⟩ (.int .i64 rt)).setCell ⟨w.heap.size, 3, none⟩ (.string rS)).setCell ⟨w.heap.size, 4, none⟩ (.slice x1 y1 z1)).setCell ⟨w.heap.size, 5, none⟩ (.slice u1 o1 l1))).drew)
                  rw [← HW4.out]
                  try simp only [Act.put, List.setIfInBounds_toArray, List.set_cons_zero, List.set_cons_succ]
                  refine t_tail (i := 1) rfl (by kernel_rfl) (by kernel_rfl) (by rfl) (fun K hK => ?_)
                  obtain ⟨d0, d1, d2, d3, d4, d5, df⟩ := block_cells6 qy4
                  go_simp
                  refine hK _ _ ?_
                  clear hK K d0 d1 d2 d3 d4 d5 df
                  try simp only [Act.put, List.setIfInBounds_toArray, List.set_cons_zero, List.set_cons_succ]
                  refine t_tail (i := 3) rfl (by kernel_rfl) (by kernel_rfl) (by rfl) (fun K hK => ?_)
                  obtain ⟨d0, d1, d2, d3, d4, d5, df⟩ := block_cells6 q6a
                  go_simp
                  refine hK _ _ ?_
                  clear hK K d0 d1 d2 d3 d4 d5 df
                  try simp only [Act.put, List.setIfInBounds_toArray, List.set_cons_zero, List.set_cons_succ]
                  refine t_over (by kernel_rfl) ?_
                  exact ⟨rfl, rfl, HW5.out.symm⟩
              · skip
                obtain ⟨d0, d1, d2, d3, d4, d5, df⟩ := block_cells6 qy
                go_simp
                refine hK _ _ ?_
                clear hK K d0 d1 d2 d3 d4 d5 df
                try simp only [Act.put, List.setIfInBounds_toArray, List.set_cons_zero, List.set_cons_succ]
                refine t_tail (i := 0) rfl (by kernel_rfl) (by kernel_rfl) (by rfl) (fun K hK => ?_)
                obtain ⟨d0, d1, d2, d3, d4, d5, df⟩ := block_cells6 qx
                go_simp
                refine hK _ _ ?_
                clear hK K d0 d1 d2 d3 d4 d5 df
                try simp only [Act.put, List.setIfInBounds_toArray, List.set_cons_zero, List.set_cons_succ]
                refine t_tail (i := 2) rfl (by kernel_rfl) (by kernel_rfl) (by rfl) (fun K hK => ?_)
                obtain ⟨d0, d1, d2, d3, d4, d5, df⟩ := block_cells6 p5
                go_simp
                refine hK _ _ ?_
                clear hK K d0 d1 d2 d3 d4 d5 df
                change wpO _ _ _ _ _ _ _ ((((((((w3.setCell ⟨w.heap.size, 0, none⟩ (.bool rh)).setCell ⟨w.heap.size, 1, none⟩ (.int .i64 rv)).setCell ⟨w.heap.size, 2, none⟩ (.int .i64 rt)).setCell ⟨w.heap.size, 3, none⟩ (.string rS)).setCell ⟨w.heap.size, 4, none⟩ (.slice x1 y1 z1)).setCell ⟨w.heap.size, 5, none⟩ (.slice u1 o1 l1))).drew)
                rw [← HW4.out]
                try simp only [Act.put, List.setIfInBounds_toArray, List.set_cons_zero, List.set_cons_succ]
                refine t_tail (i := 3) rfl (by kernel_rfl) (by kernel_rfl) (by rfl) (fun K hK => ?_)
                obtain ⟨d0, d1, d2, d3, d4, d5, df⟩ := block_cells6 q6a
                go_simp
                refine hK _ _ ?_
                clear hK K d0 d1 d2 d3 d4 d5 df
                try simp only [Act.put, List.setIfInBounds_toArray, List.set_cons_zero, List.set_cons_succ]
                refine t_over (by kernel_rfl) ?_
                exact ⟨rfl, rfl, HW5.out.symm⟩
            try simp only [Act.put, List.setIfInBounds_toArray, List.set_cons_zero, List.set_cons_succ]
            have hw4 := HW4.out
            have hW5 := HW5.out
            have G5 : w4.grownBy W5 (some (w.heap.size + 1)) := by rw [hW5]; exact set6_grown
            have q5b : W5.heap[w.heap.size]? = some (.cells #[.bool rh, .int .i64 rv, .int .i64 rt, .string rS, .slice x1 y1 z1, .slice u1 o1 l1] 24 (0, 0)) := by rw [hW5]; exact (set6_old (by omega)).trans q5a
            have q6b : W5.heap[w.heap.size + 1]? = some (.cells #[.bool rh, .int .i64 rv, .int .i64 rt, .string rS, .slice x2 y2 z2, .slice u2 o2 l2] 24 (0, 0)) := by rw [hW5]; exact set6_new q6a
            have RX5 := rds_six q6a G5 RX4
            have RY5 := rds_six q6a G5 RY4
            have M5 := below_grownB M4 G5 M4.size (by omega)
            clear hW5 hw4 HW4 HW5 G4 qy4 G5 q5a q6a RX4 RY4 RX3 RY3 M4 N3 p5 p6 qx qy q5 q6 HRs HWs HMs HSs
            have FM0 := fun w' (g : Below W5.heap.size W5 w') => slMay_any (⟨rh, rv, rt, rb, rp, rc⟩ : Sl) (.slice x1 y1 z1) (.slice u1 o1 l1) w' (RX5.below g (Nat.le_refl _))
            have FP0 := fun w' (g : Below W5.heap.size W5 w') => prepared_any (⟨rh, rv, rt, rb, rp, rc⟩ : Sl) (.slice x1 y1 z1) (.slice u1 o1 l1) n w' (RX5.below g (Nat.le_refl _)) HN.out
            have FQ0 := fun w' (g : Below W5.heap.size W5 w') => refPrepared_any (⟨rh, rv, rt, rb, rp, rc⟩ : Sl) (.slice x2 y2 z2) (.slice u2 o2 l2) n w' (RY5.below g (Nat.le_refl _)) HN.out (len_ps HMr.out)
            have FC0 := fun w' (g : Below W5.heap.size W5 w') => committed_any (⟨rh, rv, rt, rb, rp, rc⟩ : Sl) (.slice x1 y1 z1) (.slice u1 o1 l1) n w' (RX5.below g (Nat.le_refl _)) HN.out
            have FD0 := fun w' (g : Below W5.heap.size W5 w') => refCommitted_any (⟨rh, rv, rt, rb, rp, rc⟩ : Sl) (.slice x2 y2 z2) (.slice u2 o2 l2) n w' (RY5.below g (Nat.le_refl _)) HN.out (len_ps HMr.out) (len_cs HMr.out)
            rw [HMr.out] at FM0
            unfold sV at FM0 FP0 FQ0 FC0 FD0
            simp only at FM0 FP0 FQ0 FC0 FD0
            rw [← HSr.out] at FM0 FP0 FQ0 FC0 FD0
            obtain ⟨PB, hPB⟩ : ∃ P, P = prepB (⟨rh, rv, rt, rb, rp, rc⟩ : Sl) n := ⟨_, rfl⟩
            obtain ⟨CB, hCB⟩ : ∃ P, P = comB (⟨rh, rv, rt, rb, rp, rc⟩ : Sl) n := ⟨_, rfl⟩
            rw [← hPB] at FP0 FQ0
            rw [← hCB] at FC0 FD0
            have FM := Lib.hid FM0
            have FP := Lib.hid FP0
            have FQ := Lib.hid FQ0
            have FC := Lib.hid FC0
            have FD := Lib.hid FD0
            clear FM0 FP0 FQ0 FC0 FD0 hPB hCB
            have K0 : Below W5.heap.size W5 W5.drew := (Below.refl _ _).drew
            replace q5b := show W5.drew.heap[w.heap.size]? = _ from q5b
            replace q6b := show W5.drew.heap[w.heap.size + 1]? = _ from q6b
            have HX5 := Lib.hid RX5
            have HY5 := Lib.hid RY5
            clear RX5 RY5
            go_upto_region 20 with fail
            refine g_start (by kernel_rfl) ?_
            refine g_take (i := 0) (d := (some 105)) (v := ?_) rfl rfl (by kernel_rfl) (fun _ _ _ h => h) (by rfl) (fun w' hb' => ?_) ?_
            rotate_left
            · obtain ⟨d0, d1, d2, d3, d4, d5, df⟩ := block_cells6 ((hb'.block _ (lt_of_block q5b)).trans q5b); (try go_simp); (try with_reducible rfl)
            try simp only [Act.put, List.setIfInBounds_toArray, List.set_cons_zero, List.set_cons_succ]
            refine g_run (i := 1) rfl (by kernel_rfl) (by rfl) (fun K hK => ?_)
            go_simp; refine (FM.out _ K0).mono ?_; rintro e v1 ⟨rfl, g⟩; have q5b_1 := (g.block _ (lt_of_block q5b)).trans q5b; have q6b_1 := (g.block _ (lt_of_block q6b)).trans q6b; have K1 := chain K0 g; refine hK _ _ ⟨g, ?_⟩; clear hK K g
            try simp only [Act.put, List.setIfInBounds_toArray, List.set_cons_zero, List.set_cons_succ]
            refine g_take (i := 2) (d := (some 107)) (v := ?_) rfl rfl (by kernel_rfl) (fun _ _ _ h => h) (by rfl) (fun w' hb' => ?_) ?_
            rotate_left
            · (try go_simp); (try with_reducible rfl)
            try simp only [Act.put, List.setIfInBounds_toArray, List.set_cons_zero, List.set_cons_succ]
            refine g_take (i := 3) (d := (some 108)) (v := ?_) rfl rfl (by kernel_rfl) (fun _ _ _ h => h) (by rfl) (fun w' hb' => ?_) ?_
            rotate_left
            · (try go_simp); (try with_reducible rfl)
            try simp only [Act.put, List.setIfInBounds_toArray, List.set_cons_zero, List.set_cons_succ]
            refine g_take (i := 4) (d := (some 109)) (v := ?_) rfl rfl (by kernel_rfl) (fun _ _ _ h => h) (by rfl) (fun w' hb' => ?_) ?_
            rotate_left
            · obtain ⟨d0, d1, d2, d3, d4, d5, df⟩ := block_cells6 ((hb'.block _ (lt_of_block q5b_1)).trans q5b_1); (try go_simp); (try with_reducible rfl)
            try simp only [Act.put, List.setIfInBounds_toArray, List.set_cons_zero, List.set_cons_succ]
            refine g_take (i := 5) (d := (some 110)) (v := ?_) rfl rfl (by kernel_rfl) (fun _ _ _ h => h) (by rfl) (fun w' hb' => ?_) ?_
            rotate_left
            · (try go_simp); (try with_reducible rfl)
            try simp only [Act.put, List.setIfInBounds_toArray, List.set_cons_zero, List.set_cons_succ]
            refine g_take (i := 7) (d := (some 112)) (v := ?_) rfl rfl (by kernel_rfl) (fun _ _ _ h => h) (by rfl) (fun w' hb' => ?_) ?_
            rotate_left
            · obtain ⟨d0, d1, d2, d3, d4, d5, df⟩ := block_cells6 ((hb'.block _ (lt_of_block q6b_1)).trans q6b_1); (try go_simp); (try with_reducible rfl)
            try simp only [Act.put, List.setIfInBounds_toArray, List.set_cons_zero, List.set_cons_succ]
            refine g_take (i := 8) (d := (some 113)) (v := ?_) rfl rfl (by kernel_rfl) (fun _ _ _ h => h) (by rfl) (fun w' hb' => ?_) ?_
            rotate_left
            · (try go_simp); (try with_reducible rfl)
            try simp only [Act.put, List.setIfInBounds_toArray, List.set_cons_zero, List.set_cons_succ]
            refine g_run (i := 6) rfl (by kernel_rfl) (by rfl) (fun K hK => ?_)
            go_simp; refine (FP.out _ K1).mono ?_; rintro e v2 ⟨rfl, g⟩; have q5b_2 := (g.block _ (lt_of_block q5b_1)).trans q5b_1; have q6b_2 := (g.block _ (lt_of_block q6b_1)).trans q6b_1; have K2 := chain K1 g; refine hK _ _ ⟨g, ?_⟩; clear hK K g
            try simp only [Act.put, List.setIfInBounds_toArray, List.set_cons_zero, List.set_cons_succ]
            refine g_run (i := 9) rfl (by kernel_rfl) (by rfl) (fun K hK => ?_)
            go_simp; refine (FQ.out _ K2).mono ?_; rintro e v3 ⟨rfl, g⟩; have q5b_3 := (g.block _ (lt_of_block q5b_2)).trans q5b_2; have q6b_3 := (g.block _ (lt_of_block q6b_2)).trans q6b_2; have K3 := chain K2 g; refine hK _ _ ⟨g, ?_⟩; clear hK K g
            try simp only [Act.put, List.setIfInBounds_toArray, List.set_cons_zero, List.set_cons_succ]
            refine g_take (i := 10) (d := (some 115)) (v := ?_) rfl rfl (by kernel_rfl) (fun _ _ _ h => h) (by rfl) (fun w' hb' => ?_) ?_
            rotate_left
            · (try go_simp); (try with_reducible rfl)
            try simp only [Act.put, List.setIfInBounds_toArray, List.set_cons_zero, List.set_cons_succ]
            refine g_take (i := 11) (d := (some 116)) (v := ?_) rfl rfl (by kernel_rfl) (fun _ _ _ h => h) (by rfl) (fun w' hb' => ?_) ?_
            rotate_left
            · (try go_simp); (try with_reducible rfl)
            try simp only [Act.put, List.setIfInBounds_toArray, List.set_cons_zero, List.set_cons_succ]
            refine g_take (i := 12) (d := (some 117)) (v := ?_) rfl rfl (by kernel_rfl) (fun _ _ _ h => h) (by rfl) (fun w' hb' => ?_) ?_
            rotate_left
            · (try go_simp); (try with_reducible rfl)
            try simp only [Act.put, List.setIfInBounds_toArray, List.set_cons_zero, List.set_cons_succ]
            refine g_take (i := 13) (d := (some 118)) (v := ?_) rfl rfl (by kernel_rfl) (fun _ _ _ h => h) (by rfl) (fun w' hb' => ?_) ?_
            rotate_left
            · obtain ⟨d0, d1, d2, d3, d4, d5, df⟩ := block_cells6 ((hb'.block _ (lt_of_block q5b_3)).trans q5b_3); (try go_simp); (try with_reducible rfl)
            try simp only [Act.put, List.setIfInBounds_toArray, List.set_cons_zero, List.set_cons_succ]
            refine g_take (i := 14) (d := (some 119)) (v := ?_) rfl rfl (by kernel_rfl) (fun _ _ _ h => h) (by rfl) (fun w' hb' => ?_) ?_
            rotate_left
            · (try go_simp); (try with_reducible rfl)
            try simp only [Act.put, List.setIfInBounds_toArray, List.set_cons_zero, List.set_cons_succ]
            refine g_take (i := 16) (d := (some 121)) (v := ?_) rfl rfl (by kernel_rfl) (fun _ _ _ h => h) (by rfl) (fun w' hb' => ?_) ?_
            rotate_left
            · obtain ⟨d0, d1, d2, d3, d4, d5, df⟩ := block_cells6 ((hb'.block _ (lt_of_block q6b_3)).trans q6b_3); (try go_simp); (try with_reducible rfl)
            try simp only [Act.put, List.setIfInBounds_toArray, List.set_cons_zero, List.set_cons_succ]
            refine g_take (i := 17) (d := (some 122)) (v := ?_) rfl rfl (by kernel_rfl) (fun _ _ _ h => h) (by rfl) (fun w' hb' => ?_) ?_
            rotate_left
            · (try go_simp); (try with_reducible rfl)
            try simp only [Act.put, List.setIfInBounds_toArray, List.set_cons_zero, List.set_cons_succ]
            refine g_run (i := 15) rfl (by kernel_rfl) (by rfl) (fun K hK => ?_)
            go_simp; refine (FC.out _ K3).mono ?_; rintro e v4 ⟨rfl, g⟩; have q5b_4 := (g.block _ (lt_of_block q5b_3)).trans q5b_3; have q6b_4 := (g.block _ (lt_of_block q6b_3)).trans q6b_3; have K4 := chain K3 g; refine hK _ _ ⟨g, ?_⟩; clear hK K g
            try simp only [Act.put, List.setIfInBounds_toArray, List.set_cons_zero, List.set_cons_succ]
            refine g_run (i := 18) rfl (by kernel_rfl) (by rfl) (fun K hK => ?_)
            go_simp; refine (FD.out _ K4).mono ?_; rintro e v5 ⟨rfl, g⟩; have q5b_5 := (g.block _ (lt_of_block q5b_4)).trans q5b_4; have q6b_5 := (g.block _ (lt_of_block q6b_4)).trans q6b_4; have K5 := chain K4 g; refine hK _ _ ⟨g, ?_⟩; clear hK K g
            try simp only [Act.put, List.setIfInBounds_toArray, List.set_cons_zero, List.set_cons_succ]
            refine g_take (i := 19) (d := (some 124)) (v := ?_) rfl rfl (by kernel_rfl) (fun _ _ _ h => h) (by rfl) (fun w' hb' => ?_) ?_
            rotate_left
            · (try go_simp); (try with_reducible rfl)
            try simp only [Act.put, List.setIfInBounds_toArray, List.set_cons_zero, List.set_cons_succ]
            refine g_take (i := 20) (d := (some 125)) (v := ?_) rfl rfl (by kernel_rfl) (fun _ _ _ h => h) (by rfl) (fun w' hb' => ?_) ?_
            rotate_left
            · (try go_simp); (try with_reducible rfl)
            try simp only [Act.put, List.setIfInBounds_toArray, List.set_cons_zero, List.set_cons_succ]
            refine g_done (by kernel_rfl) ?_
            go_wp2_with fail
            exact ⟨⟨k + 1, rh, rv, rt, rb, rp, rc, rS, x1, y1, z1, u1, o1, l1, x2, y2, z2, u2, o2, l2, by omega, by omega, by push_cast; rfl, HSr, q5b_5, q6b_5, Lib.hid (HX5.out.below K5 (Nat.le_refl _)), Lib.hid (HY5.out.below K5 (Nat.le_refl _)), HMr, chain M5 K5⟩, by simp [intOf]; omega⟩
          · obtain ⟨E, hEE⟩ : ∃ E : Int, E = (EN : Int) := ⟨_, rfl⟩
            have hE0 : (E == 0) = false := by rw [hEE]; simpa using hE
            rw [← hEE] at CX0 CY0
            have CX := Lib.hid CX0
            have CY := Lib.hid CY0
            clear CX0 CY0 HMr1 hE hEE
            have p5 := (N0.block _ (lt_of_block q5)).trans q5
            obtain ⟨d0, d1, d2, d3, d4, d5, df⟩ := block_cells6 p5
            obtain ⟨e0, e1, e2, ef⟩ := block_cells3 qv
            go_upto_region 9 with ((with_reducible refine (CX.out _ N0).mono ?_); rintro e w1 ⟨x1, y1, z1, u1, o1, l1, rfl, R1, g⟩; clear d0 d1 d2 d3 d4 d5 df e0 e1 e2 ef p5; (replace qx := (g.block _ (lt_of_block qx)).trans qx); (replace qv := (g.block _ (lt_of_block qv)).trans qv); (replace qy := (g.block _ (lt_of_block qy)).trans qy); (obtain ⟨d0, d1, d2, d3, d4, d5, df⟩ := block_cells6 qx))
            clear d0 d1 d2 d3 d4 d5 df
            obtain ⟨W1, hW1⟩ : ∃ W, W = ((((((w1.setCell ⟨wr.heap.size + 1, 0, none⟩ (.bool rh)).setCell ⟨wr.heap.size + 1, 1, none⟩ (.int .i64 rv)).setCell ⟨wr.heap.size + 1, 2, none⟩ (.int .i64 rt)).setCell ⟨wr.heap.size + 1, 3, none⟩ (.string rS)).setCell ⟨wr.heap.size + 1, 4, none⟩ (.slice x1 y1 z1)).setCell ⟨wr.heap.size + 1, 5, none⟩ (.slice u1 o1 l1)) := ⟨_, rfl⟩
            rw [← hW1]
            have GW1 : w1.grownBy W1 (some (wr.heap.size + 1)) := by rw [hW1]; exact set6_grown
            have NW1 := below_grownB (chain N0 g) GW1 (chain N0 g).size (by omega)
            have RXW1 := rds_six qx GW1 (R1)
            have qxn : W1.heap[wr.heap.size + 1]? = some (.cells #[.bool rh, .int .i64 rv, .int .i64 rt, .string rS, .slice x1 y1 z1, .slice u1 o1 l1] 24 (0, 0)) := by rw [hW1]; exact set6_new qx
            have qvn := (set6_old (w := w1) (B := wr.heap.size + 1) (k := wr.heap.size) (u0 := .bool rh) (u1 := .int .i64 rv) (u2 := .int .i64 rt) (u3 := .string rS) (u4 := .slice x1 y1 z1) (u5 := .slice u1 o1 l1) (by omega)).trans qv
            rw [← hW1] at qvn
            have qyn := (set6_old (w := w1) (B := wr.heap.size + 1) (k := wr.heap.size + 2) (u0 := .bool rh) (u1 := .int .i64 rv) (u2 := .int .i64 rt) (u3 := .string rS) (u4 := .slice x1 y1 z1) (u5 := .slice u1 o1 l1) (by omega)).trans qy
            rw [← hW1] at qyn
            clear hW1 GW1 qx qv qy
            have qx := qxn
            clear qxn
            have qv := qvn
            clear qvn
            have qy := qyn
            clear qyn
            clear R1 g N0 CX
            have p6 := (NW1.block _ (lt_of_block q6)).trans q6
            obtain ⟨d0, d1, d2, d3, d4, d5, df⟩ := block_cells6 p6
            obtain ⟨e0, e1, e2, ef⟩ := block_cells3 qv
            go_upto_region 16 with ((with_reducible refine (CY.out _ NW1).mono ?_); rintro e w2 ⟨x2, y2, z2, u2, o2, l2, rfl, R2, g⟩; clear d0 d1 d2 d3 d4 d5 df e0 e1 e2 ef p6; (replace qx := (g.block _ (lt_of_block qx)).trans qx); (replace qv := (g.block _ (lt_of_block qv)).trans qv); (replace qy := (g.block _ (lt_of_block qy)).trans qy); (obtain ⟨d0, d1, d2, d3, d4, d5, df⟩ := block_cells6 qy))
            clear d0 d1 d2 d3 d4 d5 df
            obtain ⟨W2, hW2⟩ : ∃ W, W = ((((((w2.setCell ⟨wr.heap.size + 2, 0, none⟩ (.bool rh)).setCell ⟨wr.heap.size + 2, 1, none⟩ (.int .i64 rv)).setCell ⟨wr.heap.size + 2, 2, none⟩ (.int .i64 rt)).setCell ⟨wr.heap.size + 2, 3, none⟩ (.string rS)).setCell ⟨wr.heap.size + 2, 4, none⟩ (.slice x2 y2 z2)).setCell ⟨wr.heap.size + 2, 5, none⟩ (.slice u2 o2 l2)) := ⟨_, rfl⟩
            rw [← hW2]
            have GW2 : w2.grownBy W2 (some (wr.heap.size + 2)) := by rw [hW2]; exact set6_grown
            have NW2 := below_grownB (chain NW1 g) GW2 (chain NW1 g).size (by omega)
            have RXW2 := rds_six qy GW2 (RXW1.below g (Nat.le_refl _))
            have RYW2 := rds_six qy GW2 (R2)
            have qyn : W2.heap[wr.heap.size + 2]? = some (.cells #[.bool rh, .int .i64 rv, .int .i64 rt, .string rS, .slice x2 y2 z2, .slice u2 o2 l2] 24 (0, 0)) := by rw [hW2]; exact set6_new qy
            have qvn := (set6_old (w := w2) (B := wr.heap.size + 2) (k := wr.heap.size) (u0 := .bool rh) (u1 := .int .i64 rv) (u2 := .int .i64 rt) (u3 := .string rS) (u4 := .slice x2 y2 z2) (u5 := .slice u2 o2 l2) (by omega)).trans qv
            rw [← hW2] at qvn
            have qxn := (set6_old (w := w2) (B := wr.heap.size + 2) (k := wr.heap.size + 1) (u0 := .bool rh) (u1 := .int .i64 rv) (u2 := .int .i64 rt) (u3 := .string rS) (u4 := .slice x2 y2 z2) (u5 := .slice u2 o2 l2) (by omega)).trans qx
            rw [← hW2] at qxn
            clear hW2 GW2 qy qv qx
            have qy := qyn
            clear qyn
            have qv := qvn
            clear qvn
            have qx := qxn
            clear qxn
            clear R2 g NW1 CY qv RXW1
            have SA0 := fun w' (g : Below W2.heap.size W2 w') => same_yes (⟨rh, rv, rt, rb, rp, rc⟩ : Sl) (.slice x1 y1 z1) (.slice u1 o1 l1) (.slice x2 y2 z2) (.slice u2 o2 l2) w' (RXW2.below g (Nat.le_refl _)) (RYW2.below g (Nat.le_refl _))
            unfold sV at SA0
            simp only at SA0
            rw [← HSr.out] at SA0
            have SA := Lib.hid SA0
            clear SA0
            obtain ⟨d0, d1, d2, d3, d4, d5, df⟩ := block_cells6 qx
            obtain ⟨e0, e1, e2, e3, e4, e5, ef⟩ := block_cells6 qy
            go_upto_region 20 with ((with_reducible refine (SA.out _ (Below.refl _ _)).mono ?_); rintro e w3 ⟨rfl, g⟩; clear d0 d1 d2 d3 d4 d5 df e0 e1 e2 e3 e4 e5 ef; (replace qx := (g.block _ (lt_of_block qx)).trans qx); (replace qy := (g.block _ (lt_of_block qy)).trans qy); (have RX3 := RXW2.below g (Nat.le_refl _)); (have RY3 := RYW2.below g (Nat.le_refl _)); (have N3 := chain NW2 g); clear g)
            clear RXW2 RYW2 NW2 SA RX3 RY3 qx qy HSr
            have q5b := (N3.block _ (lt_of_block q5)).trans q5
            have q6b := (N3.block _ (lt_of_block q6)).trans q6
            have RX5 := HRs.out.below N3 (Nat.le_refl _)
            have RY5 := HWs.out.below N3 (Nat.le_refl _)
            have M5 := chain BW N3
            clear q5 q6 HRs HWs N3 BW
            have FM0 := fun w' (g : Below w3.heap.size w3 w') => slMay_any (⟨sh, sv, st, sb, sp, sc⟩ : Sl) (.slice x5 y5 z5) (.slice u5 o5 l5) w' (RX5.below g (Nat.le_refl _))
            have FP0 := fun w' (g : Below w3.heap.size w3 w') => prepared_any (⟨sh, sv, st, sb, sp, sc⟩ : Sl) (.slice x5 y5 z5) (.slice u5 o5 l5) n w' (RX5.below g (Nat.le_refl _)) HN.out
            have FQ0 := fun w' (g : Below w3.heap.size w3 w') => refPrepared_any (⟨sh, sv, st, sb, sp, sc⟩ : Sl) (.slice x6 y6 z6) (.slice u6 o6 l6) n w' (RY5.below g (Nat.le_refl _)) HN.out (len_ps HMs.out)
            have FC0 := fun w' (g : Below w3.heap.size w3 w') => committed_any (⟨sh, sv, st, sb, sp, sc⟩ : Sl) (.slice x5 y5 z5) (.slice u5 o5 l5) n w' (RX5.below g (Nat.le_refl _)) HN.out
            have FD0 := fun w' (g : Below w3.heap.size w3 w') => refCommitted_any (⟨sh, sv, st, sb, sp, sc⟩ : Sl) (.slice x6 y6 z6) (.slice u6 o6 l6) n w' (RY5.below g (Nat.le_refl _)) HN.out (len_ps HMs.out) (len_cs HMs.out)
            rw [HMs.out] at FM0
            unfold sV at FM0 FP0 FQ0 FC0 FD0
            simp only at FM0 FP0 FQ0 FC0 FD0
            rw [← HSs.out] at FM0 FP0 FQ0 FC0 FD0
            obtain ⟨PB, hPB⟩ : ∃ P, P = prepB (⟨sh, sv, st, sb, sp, sc⟩ : Sl) n := ⟨_, rfl⟩
            obtain ⟨CB, hCB⟩ : ∃ P, P = comB (⟨sh, sv, st, sb, sp, sc⟩ : Sl) n := ⟨_, rfl⟩
            rw [← hPB] at FP0 FQ0
            rw [← hCB] at FC0 FD0
            have FM := Lib.hid FM0
            have FP := Lib.hid FP0
            have FQ := Lib.hid FQ0
            have FC := Lib.hid FC0
            have FD := Lib.hid FD0
            clear FM0 FP0 FQ0 FC0 FD0 hPB hCB
            have K0 : Below w3.heap.size w3 w3.drew := (Below.refl _ _).drew
            replace q5b := show w3.drew.heap[w.heap.size]? = _ from q5b
            replace q6b := show w3.drew.heap[w.heap.size + 1]? = _ from q6b
            have HX5 := Lib.hid RX5
            have HY5 := Lib.hid RY5
            clear RX5 RY5
            refine g_start (by kernel_rfl) ?_
            refine g_take (i := 0) (d := (some 105)) (v := ?_) rfl rfl (by kernel_rfl) (fun _ _ _ h => h) (by rfl) (fun w' hb' => ?_) ?_
            rotate_left
            · obtain ⟨d0, d1, d2, d3, d4, d5, df⟩ := block_cells6 ((hb'.block _ (lt_of_block q5b)).trans q5b); (try go_simp); (try with_reducible rfl)
            try simp only [Act.put, List.setIfInBounds_toArray, List.set_cons_zero, List.set_cons_succ]
            refine g_run (i := 1) rfl (by kernel_rfl) (by rfl) (fun K hK => ?_)
            go_simp; refine (FM.out _ K0).mono ?_; rintro e v1 ⟨rfl, g⟩; have q5b_1 := (g.block _ (lt_of_block q5b)).trans q5b; have q6b_1 := (g.block _ (lt_of_block q6b)).trans q6b; have K1 := chain K0 g; refine hK _ _ ⟨g, ?_⟩; clear hK K g
            try simp only [Act.put, List.setIfInBounds_toArray, List.set_cons_zero, List.set_cons_succ]
            refine g_take (i := 2) (d := (some 107)) (v := ?_) rfl rfl (by kernel_rfl) (fun _ _ _ h => h) (by rfl) (fun w' hb' => ?_) ?_
            rotate_left
            · (try go_simp); (try with_reducible rfl)
            try simp only [Act.put, List.setIfInBounds_toArray, List.set_cons_zero, List.set_cons_succ]
            refine g_take (i := 3) (d := (some 108)) (v := ?_) rfl rfl (by kernel_rfl) (fun _ _ _ h => h) (by rfl) (fun w' hb' => ?_) ?_
            rotate_left
            · (try go_simp); (try with_reducible rfl)
            try simp only [Act.put, List.setIfInBounds_toArray, List.set_cons_zero, List.set_cons_succ]
            refine g_take (i := 4) (d := (some 109)) (v := ?_) rfl rfl (by kernel_rfl) (fun _ _ _ h => h) (by rfl) (fun w' hb' => ?_) ?_
            rotate_left
            · obtain ⟨d0, d1, d2, d3, d4, d5, df⟩ := block_cells6 ((hb'.block _ (lt_of_block q5b_1)).trans q5b_1); (try go_simp); (try with_reducible rfl)
            try simp only [Act.put, List.setIfInBounds_toArray, List.set_cons_zero, List.set_cons_succ]
            refine g_take (i := 5) (d := (some 110)) (v := ?_) rfl rfl (by kernel_rfl) (fun _ _ _ h => h) (by rfl) (fun w' hb' => ?_) ?_
            rotate_left
            · (try go_simp); (try with_reducible rfl)
            try simp only [Act.put, List.setIfInBounds_toArray, List.set_cons_zero, List.set_cons_succ]
            refine g_take (i := 7) (d := (some 112)) (v := ?_) rfl rfl (by kernel_rfl) (fun _ _ _ h => h) (by rfl) (fun w' hb' => ?_) ?_
            rotate_left
            · obtain ⟨d0, d1, d2, d3, d4, d5, df⟩ := block_cells6 ((hb'.block _ (lt_of_block q6b_1)).trans q6b_1); (try go_simp); (try with_reducible rfl)
            try simp only [Act.put, List.setIfInBounds_toArray, List.set_cons_zero, List.set_cons_succ]
            refine g_take (i := 8) (d := (some 113)) (v := ?_) rfl rfl (by kernel_rfl) (fun _ _ _ h => h) (by rfl) (fun w' hb' => ?_) ?_
            rotate_left
            · (try go_simp); (try with_reducible rfl)
            try simp only [Act.put, List.setIfInBounds_toArray, List.set_cons_zero, List.set_cons_succ]
            refine g_run (i := 6) rfl (by kernel_rfl) (by rfl) (fun K hK => ?_)
            go_simp; refine (FP.out _ K1).mono ?_; rintro e v2 ⟨rfl, g⟩; have q5b_2 := (g.block _ (lt_of_block q5b_1)).trans q5b_1; have q6b_2 := (g.block _ (lt_of_block q6b_1)).trans q6b_1; have K2 := chain K1 g; refine hK _ _ ⟨g, ?_⟩; clear hK K g
            try simp only [Act.put, List.setIfInBounds_toArray, List.set_cons_zero, List.set_cons_succ]
            refine g_run (i := 9) rfl (by kernel_rfl) (by rfl) (fun K hK => ?_)
            go_simp; refine (FQ.out _ K2).mono ?_; rintro e v3 ⟨rfl, g⟩; have q5b_3 := (g.block _ (lt_of_block q5b_2)).trans q5b_2; have q6b_3 := (g.block _ (lt_of_block q6b_2)).trans q6b_2; have K3 := chain K2 g; refine hK _ _ ⟨g, ?_⟩; clear hK K g
            try simp only [Act.put, List.setIfInBounds_toArray, List.set_cons_zero, List.set_cons_succ]
            refine g_take (i := 10) (d := (some 115)) (v := ?_) rfl rfl (by kernel_rfl) (fun _ _ _ h => h) (by rfl) (fun w' hb' => ?_) ?_
            rotate_left
            · (try go_simp); (try with_reducible rfl)
            try simp only [Act.put, List.setIfInBounds_toArray, List.set_cons_zero, List.set_cons_succ]
            refine g_take (i := 11) (d := (some 116)) (v := ?_) rfl rfl (by kernel_rfl) (fun _ _ _ h => h) (by rfl) (fun w' hb' => ?_) ?_
            rotate_left
            · (try go_simp); (try with_reducible rfl)
            try simp only [Act.put, List.setIfInBounds_toArray, List.set_cons_zero, List.set_cons_succ]
            refine g_take (i := 12) (d := (some 117)) (v := ?_) rfl rfl (by kernel_rfl) (fun _ _ _ h => h) (by rfl) (fun w' hb' => ?_) ?_
            rotate_left
            · (try go_simp); (try with_reducible rfl)
            try simp only [Act.put, List.setIfInBounds_toArray, List.set_cons_zero, List.set_cons_succ]
            refine g_take (i := 13) (d := (some 118)) (v := ?_) rfl rfl (by kernel_rfl) (fun _ _ _ h => h) (by rfl) (fun w' hb' => ?_) ?_
            rotate_left
            · obtain ⟨d0, d1, d2, d3, d4, d5, df⟩ := block_cells6 ((hb'.block _ (lt_of_block q5b_3)).trans q5b_3); (try go_simp); (try with_reducible rfl)
            try simp only [Act.put, List.setIfInBounds_toArray, List.set_cons_zero, List.set_cons_succ]
            refine g_take (i := 14) (d := (some 119)) (v := ?_) rfl rfl (by kernel_rfl) (fun _ _ _ h => h) (by rfl) (fun w' hb' => ?_) ?_
            rotate_left
            · (try go_simp); (try with_reducible rfl)
            try simp only [Act.put, List.setIfInBounds_toArray, List.set_cons_zero, List.set_cons_succ]
            refine g_take (i := 16) (d := (some 121)) (v := ?_) rfl rfl (by kernel_rfl) (fun _ _ _ h => h) (by rfl) (fun w' hb' => ?_) ?_
            rotate_left
            · obtain ⟨d0, d1, d2, d3, d4, d5, df⟩ := block_cells6 ((hb'.block _ (lt_of_block q6b_3)).trans q6b_3); (try go_simp); (try with_reducible rfl)
            try simp only [Act.put, List.setIfInBounds_toArray, List.set_cons_zero, List.set_cons_succ]
            refine g_take (i := 17) (d := (some 122)) (v := ?_) rfl rfl (by kernel_rfl) (fun _ _ _ h => h) (by rfl) (fun w' hb' => ?_) ?_
            rotate_left
            · (try go_simp); (try with_reducible rfl)
            try simp only [Act.put, List.setIfInBounds_toArray, List.set_cons_zero, List.set_cons_succ]
            refine g_run (i := 15) rfl (by kernel_rfl) (by rfl) (fun K hK => ?_)
            go_simp; refine (FC.out _ K3).mono ?_; rintro e v4 ⟨rfl, g⟩; have q5b_4 := (g.block _ (lt_of_block q5b_3)).trans q5b_3; have q6b_4 := (g.block _ (lt_of_block q6b_3)).trans q6b_3; have K4 := chain K3 g; refine hK _ _ ⟨g, ?_⟩; clear hK K g
            try simp only [Act.put, List.setIfInBounds_toArray, List.set_cons_zero, List.set_cons_succ]
            refine g_run (i := 18) rfl (by kernel_rfl) (by rfl) (fun K hK => ?_)
            go_simp; refine (FD.out _ K4).mono ?_; rintro e v5 ⟨rfl, g⟩; have q5b_5 := (g.block _ (lt_of_block q5b_4)).trans q5b_4; have q6b_5 := (g.block _ (lt_of_block q6b_4)).trans q6b_4; have K5 := chain K4 g; refine hK _ _ ⟨g, ?_⟩; clear hK K g
            try simp only [Act.put, List.setIfInBounds_toArray, List.set_cons_zero, List.set_cons_succ]
            refine g_take (i := 19) (d := (some 124)) (v := ?_) rfl rfl (by kernel_rfl) (fun _ _ _ h => h) (by rfl) (fun w' hb' => ?_) ?_
            rotate_left
            · (try go_simp); (try with_reducible rfl)
            try simp only [Act.put, List.setIfInBounds_toArray, List.set_cons_zero, List.set_cons_succ]
            refine g_take (i := 20) (d := (some 125)) (v := ?_) rfl rfl (by kernel_rfl) (fun _ _ _ h => h) (by rfl) (fun w' hb' => ?_) ?_
            rotate_left
            · (try go_simp); (try with_reducible rfl)
            try simp only [Act.put, List.setIfInBounds_toArray, List.set_cons_zero, List.set_cons_succ]
            refine g_done (by kernel_rfl) ?_
            go_wp2_with fail
            exact ⟨⟨k + 1, sh, sv, st, sb, sp, sc, sS, x5, y5, z5, u5, o5, l5, x6, y6, z6, u6, o6, l6, by omega, by omega, by push_cast; rfl, HSs, q5b_5, q6b_5, Lib.hid (HX5.out.below K5 (Nat.le_refl _)), Lib.hid (HY5.out.below K5 (Nat.le_refl _)), HMs, chain M5 K5⟩, by simp [intOf]; omega⟩
      · have hp1 : (primZ b n == a) = false := by simpa using hp
        have PR0 := (PR b).out
        clear PR
        obtain ⟨Pn, hPn⟩ : ∃ P, P = primZ b n := ⟨_, rfl⟩
        rw [← hPn] at PR0 hp1
        have PR := Lib.hid PR0
        clear hPn PR0 hp
        refine g_start (by kernel_rfl) ?_
        refine g_take (i := 0) (d := (some 63)) (v := ?_) rfl rfl (by kernel_rfl) (fun _ _ _ h => h) (by rfl) (fun w' hb' => ?_) ?_
        rotate_left
        · (try go_simp); (try with_reducible rfl)
        try simp only [Act.put, List.setIfInBounds_toArray, List.set_cons_zero, List.set_cons_succ]
        refine g_take (i := 1) (d := (some 64)) (v := ?_) rfl rfl (by kernel_rfl) (fun _ _ _ h => h) (by rfl) (fun w' hb' => ?_) ?_
        rotate_left
        · obtain ⟨e0, e1, e2, ef⟩ := block_cells3 ((hb'.block _ (lt_of_block qv)).trans qv); (try go_simp); (try with_reducible rfl)
        try simp only [Act.put, List.setIfInBounds_toArray, List.set_cons_zero, List.set_cons_succ]
        refine g_take (i := 2) (d := (some 65)) (v := ?_) rfl rfl (by kernel_rfl) (fun _ _ _ h => h) (by rfl) (fun w' hb' => ?_) ?_
        rotate_left
        · (try go_simp); (try with_reducible rfl)
        try simp only [Act.put, List.setIfInBounds_toArray, List.set_cons_zero, List.set_cons_succ]
        refine g_take (i := 4) (d := (some 67)) (v := ?_) rfl rfl (by kernel_rfl) (fun _ _ _ h => h) (by rfl) (fun w' hb' => ?_) ?_
        rotate_left
        · (try go_simp); (try with_reducible rfl)
        try simp only [Act.put, List.setIfInBounds_toArray, List.set_cons_zero, List.set_cons_succ]
        refine g_take (i := 5) (d := (some 68)) (v := ?_) rfl rfl (by kernel_rfl) (fun _ _ _ h => h) (by rfl) (fun w' hb' => ?_) ?_
        rotate_left
        · obtain ⟨e0, e1, e2, ef⟩ := block_cells3 ((hb'.block _ (lt_of_block qv)).trans qv); (try go_simp); (try with_reducible rfl)
        try simp only [Act.put, List.setIfInBounds_toArray, List.set_cons_zero, List.set_cons_succ]
        refine g_run (i := 3) rfl (by kernel_rfl) (by rfl) (fun K hK => ?_)
        go_simp; refine (PR.out _).mono ?_; rintro e v9 ⟨rfl, rfl⟩; refine hK _ _ ⟨Below.refl _ _, ?_⟩; clear hK K
        try simp only [Act.put, List.setIfInBounds_toArray, List.set_cons_zero, List.set_cons_succ]
        refine g_take (i := 6) (d := (some 69)) (v := ?_) rfl rfl (by kernel_rfl) (fun _ _ _ h => h) (by rfl) (fun w' hb' => ?_) ?_
        rotate_left
        · (try go_simp); (try with_reducible rfl)
        try simp only [Act.put, List.setIfInBounds_toArray, List.set_cons_zero, List.set_cons_succ]
        refine g_take (i := 7) (d := (some 70)) (v := ?_) rfl rfl (by kernel_rfl) (fun _ _ _ h => h) (by rfl) (fun w' hb' => ?_) ?_
        rotate_left
        · (try go_simp); (try with_reducible rfl)
        try simp only [Act.put, List.setIfInBounds_toArray, List.set_cons_zero, List.set_cons_succ]
        refine g_skip (i := 8) (d := (some 71)) rfl rfl (by kernel_rfl) (fun _ _ _ h => h) (by rfl) ?_
        try simp only [Act.put, List.setIfInBounds_toArray, List.set_cons_zero, List.set_cons_succ]
        refine g_skip (i := 9) (d := (some 72)) rfl rfl (by kernel_rfl) (fun _ _ _ h => h) (by rfl) ?_
        try simp only [Act.put, List.setIfInBounds_toArray, List.set_cons_zero, List.set_cons_succ]
        refine g_take (i := 10) (d := (some 73)) (v := ?_) rfl rfl (by kernel_rfl) (fun _ _ _ h => h) (by rfl) (fun w' hb' => ?_) ?_
        rotate_left
        · (try go_simp); (try with_reducible rfl)
        try simp only [Act.put, List.setIfInBounds_toArray, List.set_cons_zero, List.set_cons_succ]
        refine g_take (i := 11) (d := (some 62)) (v := ?_) rfl rfl (by kernel_rfl) (fun _ _ _ h => h) (by rfl) (fun w' hb' => ?_) ?_
        rotate_left
        · (try go_simp); (try with_reducible rfl)
        try simp only [Act.put, List.setIfInBounds_toArray, List.set_cons_zero, List.set_cons_succ]
        refine g_done (by kernel_rfl) ?_
        obtain ⟨V1, hV1⟩ : ∃ V, V = V0.drew := ⟨_, rfl⟩
        rw [← hV1]
        replace qv : V1.heap[wr.heap.size]? = some (.cells #[.int .i64 a, .int .i64 b, .int .i64 c] 26 (0, 0)) := by rw [hV1]; exact qv
        replace qx : V1.heap[wr.heap.size + 1]? = some (.cells #[.bool false, .int .i64 0, .int .i64 0, .string ⟨#[]⟩, .slice none 0 0, .slice none 0 0] 24 (0, 0)) := by rw [hV1]; exact qx
        replace qy : V1.heap[wr.heap.size + 2]? = some (.cells #[.bool false, .int .i64 0, .int .i64 0, .string ⟨#[]⟩, .slice none 0 0, .slice none 0 0] 24 (0, 0)) := by rw [hV1]; exact qy
        replace N0 : Below wr.heap.size wr V1 := by rw [hV1]; exact N0.drew
        clear hV1
        have CX0 := fun w' (g : Below wr.heap.size wr w') => (prep_any (⟨sh, sv, st, sb, sp, sc⟩ : Sl) (.slice x5 y5 z5) (.slice u5 o5 l5) (⟨a, b, c⟩ : Vt) w' (HRs.out.below g (Nat.le_refl _))).mono (fun _ _ => gq_p)
        have CY0 := fun w' (g : Below wr.heap.size wr w') => (rprep_any (⟨sh, sv, st, sb, sp, sc⟩ : Sl) (.slice x6 y6 z6) (.slice u6 o6 l6) (⟨a, b, c⟩ : Vt) w' (HWs.out.below g (Nat.le_refl _))).mono (fun _ _ => gq_r)
        have HMr0 := fun e => prepR_may (s := (⟨sh, sv, st, sb, sp, sc⟩ : Sl)) (v := ⟨a, b, c⟩) e
        unfold sV vtV at CX0 CY0
        simp only at CX0 CY0 HMr0
        rw [← HSs.out] at CX0 CY0

        obtain ⟨R, hR⟩ : ∃ R, R = prepR (⟨sh, sv, st, sb, sp, sc⟩ : Sl) (⟨a, b, c⟩ : Vt) := ⟨_, rfl⟩
        obtain ⟨EN, hEN⟩ : ∃ E : Nat, E = castE (⟨sh, sv, st, sb, sp, sc⟩ : Sl) sp (⟨a, b, c⟩ : Vt) := ⟨_, rfl⟩
        rw [← hR, ← hEN] at CX0 CY0 HMr0
        clear hR hEN
        obtain ⟨rh, rv, rt, rb, rp, rc⟩ := R
        simp only at CX0 CY0
        obtain ⟨rS, hrS⟩ : ∃ S, S = str rb := ⟨_, rfl⟩
        rw [← hrS] at CX0 CY0
        have HSr := Lib.hid hrS
        have HMr1 := Lib.hid HMr0
        clear HMr0 hrS
        by_cases hE : EN = 0
        · have HMr := Lib.hid (HMr1.out hE)
          rw [hE, show ((0 : Nat) : Int) = 0 from rfl] at CX0 CY0
          have CX := Lib.hid CX0
          have CY := Lib.hid CY0
          clear CX0 CY0 HMr1 hE EN
          have p5 := (N0.block _ (lt_of_block q5)).trans q5
          obtain ⟨d0, d1, d2, d3, d4, d5, df⟩ := block_cells6 p5
          obtain ⟨e0, e1, e2, ef⟩ := block_cells3 qv
          go_upto_region 9 with ((with_reducible refine (CX.out _ N0).mono ?_); rintro e w1 ⟨x1, y1, z1, u1, o1, l1, rfl, R1, g⟩; clear d0 d1 d2 d3 d4 d5 df e0 e1 e2 ef p5; (replace qx := (g.block _ (lt_of_block qx)).trans qx); (replace qv := (g.block _ (lt_of_block qv)).trans qv); (replace qy := (g.block _ (lt_of_block qy)).trans qy); (obtain ⟨d0, d1, d2, d3, d4, d5, df⟩ := block_cells6 qx))
          clear d0 d1 d2 d3 d4 d5 df
          obtain ⟨W1, hW1⟩ : ∃ W, W = ((((((w1.setCell ⟨wr.heap.size + 1, 0, none⟩ (.bool rh)).setCell ⟨wr.heap.size + 1, 1, none⟩ (.int .i64 rv)).setCell ⟨wr.heap.size + 1, 2, none⟩ (.int .i64 rt)).setCell ⟨wr.heap.size + 1, 3, none⟩ (.string rS)).setCell ⟨wr.heap.size + 1, 4, none⟩ (.slice x1 y1 z1)).setCell ⟨wr.heap.size + 1, 5, none⟩ (.slice u1 o1 l1)) := ⟨_, rfl⟩
          rw [← hW1]
          have GW1 : w1.grownBy W1 (some (wr.heap.size + 1)) := by rw [hW1]; exact set6_grown
          have NW1 := below_grownB (chain N0 g) GW1 (chain N0 g).size (by omega)
          have RXW1 := rds_six qx GW1 (R1)
          have qxn : W1.heap[wr.heap.size + 1]? = some (.cells #[.bool rh, .int .i64 rv, .int .i64 rt, .string rS, .slice x1 y1 z1, .slice u1 o1 l1] 24 (0, 0)) := by rw [hW1]; exact set6_new qx
          have qvn := (set6_old (w := w1) (B := wr.heap.size + 1) (k := wr.heap.size) (u0 := .bool rh) (u1 := .int .i64 rv) (u2 := .int .i64 rt) (u3 := .string rS) (u4 := .slice x1 y1 z1) (u5 := .slice u1 o1 l1) (by omega)).trans qv
          rw [← hW1] at qvn
          have qyn := (set6_old (w := w1) (B := wr.heap.size + 1) (k := wr.heap.size + 2) (u0 := .bool rh) (u1 := .int .i64 rv) (u2 := .int .i64 rt) (u3 := .string rS) (u4 := .slice x1 y1 z1) (u5 := .slice u1 o1 l1) (by omega)).trans qy
          rw [← hW1] at qyn
          clear hW1 GW1 qx qv qy
          have qx := qxn
          clear qxn
          have qv := qvn
          clear qvn
          have qy := qyn
          clear qyn
          clear R1 g N0 CX
          have p6 := (NW1.block _ (lt_of_block q6)).trans q6
          obtain ⟨d0, d1, d2, d3, d4, d5, df⟩ := block_cells6 p6
          obtain ⟨e0, e1, e2, ef⟩ := block_cells3 qv
          go_upto_region 16 with ((with_reducible refine (CY.out _ NW1).mono ?_); rintro e w2 ⟨x2, y2, z2, u2, o2, l2, rfl, R2, g⟩; clear d0 d1 d2 d3 d4 d5 df e0 e1 e2 ef p6; (replace qx := (g.block _ (lt_of_block qx)).trans qx); (replace qv := (g.block _ (lt_of_block qv)).trans qv); (replace qy := (g.block _ (lt_of_block qy)).trans qy); (obtain ⟨d0, d1, d2, d3, d4, d5, df⟩ := block_cells6 qy))
          clear d0 d1 d2 d3 d4 d5 df
          obtain ⟨W2, hW2⟩ : ∃ W, W = ((((((w2.setCell ⟨wr.heap.size + 2, 0, none⟩ (.bool rh)).setCell ⟨wr.heap.size + 2, 1, none⟩ (.int .i64 rv)).setCell ⟨wr.heap.size + 2, 2, none⟩ (.int .i64 rt)).setCell ⟨wr.heap.size + 2, 3, none⟩ (.string rS)).setCell ⟨wr.heap.size + 2, 4, none⟩ (.slice x2 y2 z2)).setCell ⟨wr.heap.size + 2, 5, none⟩ (.slice u2 o2 l2)) := ⟨_, rfl⟩
          rw [← hW2]
          have GW2 : w2.grownBy W2 (some (wr.heap.size + 2)) := by rw [hW2]; exact set6_grown
          have NW2 := below_grownB (chain NW1 g) GW2 (chain NW1 g).size (by omega)
          have RXW2 := rds_six qy GW2 (RXW1.below g (Nat.le_refl _))
          have RYW2 := rds_six qy GW2 (R2)
          have qyn : W2.heap[wr.heap.size + 2]? = some (.cells #[.bool rh, .int .i64 rv, .int .i64 rt, .string rS, .slice x2 y2 z2, .slice u2 o2 l2] 24 (0, 0)) := by rw [hW2]; exact set6_new qy
          have qvn := (set6_old (w := w2) (B := wr.heap.size + 2) (k := wr.heap.size) (u0 := .bool rh) (u1 := .int .i64 rv) (u2 := .int .i64 rt) (u3 := .string rS) (u4 := .slice x2 y2 z2) (u5 := .slice u2 o2 l2) (by omega)).trans qv
          rw [← hW2] at qvn
          have qxn := (set6_old (w := w2) (B := wr.heap.size + 2) (k := wr.heap.size + 1) (u0 := .bool rh) (u1 := .int .i64 rv) (u2 := .int .i64 rt) (u3 := .string rS) (u4 := .slice x2 y2 z2) (u5 := .slice u2 o2 l2) (by omega)).trans qx
          rw [← hW2] at qxn
          clear hW2 GW2 qy qv qx
          have qy := qyn
          clear qyn
          have qv := qvn
          clear qvn
          have qx := qxn
          clear qxn
          clear R2 g NW1 CY qv RXW1
          have SA0 := fun w' (g : Below W2.heap.size W2 w') => same_yes (⟨rh, rv, rt, rb, rp, rc⟩ : Sl) (.slice x1 y1 z1) (.slice u1 o1 l1) (.slice x2 y2 z2) (.slice u2 o2 l2) w' (RXW2.below g (Nat.le_refl _)) (RYW2.below g (Nat.le_refl _))
          unfold sV at SA0
          simp only at SA0
          rw [← HSr.out] at SA0
          have SA := Lib.hid SA0
          clear SA0
          obtain ⟨d0, d1, d2, d3, d4, d5, df⟩ := block_cells6 qx
          obtain ⟨e0, e1, e2, e3, e4, e5, ef⟩ := block_cells6 qy
          go_upto_region 19 with ((with_reducible refine (SA.out _ (Below.refl _ _)).mono ?_); rintro e w3 ⟨rfl, g⟩; clear d0 d1 d2 d3 d4 d5 df e0 e1 e2 e3 e4 e5 ef; (replace qx := (g.block _ (lt_of_block qx)).trans qx); (replace qy := (g.block _ (lt_of_block qy)).trans qy); (have RX3 := RXW2.below g (Nat.le_refl _)); (have RY3 := RYW2.below g (Nat.le_refl _)); (have N3 := chain NW2 g); clear g)
          clear RXW2 RYW2 NW2 SA
          have p5 := (N3.block _ (lt_of_block q5)).trans q5
          have p6 := (N3.block _ (lt_of_block q6)).trans q6
          obtain ⟨w4, hw4⟩ : ∃ W, W = (((((((w3.setCell ⟨w.heap.size, 0, none⟩ (.bool rh)).setCell ⟨w.heap.size, 1, none⟩ (.int .i64 rv)).setCell ⟨w.heap.size, 2, none⟩ (.int .i64 rt)).setCell ⟨w.heap.size, 3, none⟩ (.string rS)).setCell ⟨w.heap.size, 4, none⟩ (.slice x1 y1 z1)).setCell ⟨w.heap.size, 5, none⟩ (.slice u1 o1 l1))).drew := ⟨_, rfl⟩
          obtain ⟨W5, hW5⟩ : ∃ W, W = ((((((w4.setCell ⟨w.heap.size + 1, 0, none⟩ (.bool rh)).setCell ⟨w.heap.size + 1, 1, none⟩ (.int .i64 rv)).setCell ⟨w.heap.size + 1, 2, none⟩ (.int .i64 rt)).setCell ⟨w.heap.size + 1, 3, none⟩ (.string rS)).setCell ⟨w.heap.size + 1, 4, none⟩ (.slice x2 y2 z2)).setCell ⟨w.heap.size + 1, 5, none⟩ (.slice u2 o2 l2)) := ⟨_, rfl⟩
          have G4 : w3.grownBy w4 (some (w.heap.size)) := by rw [hw4]; exact grown_drewB set6_grown
          have M4 := below_grownB (chain BW N3) G4 (chain BW N3).size (Nat.le_refl _)
          have q5a : w4.heap[w.heap.size]? = some (.cells #[.bool rh, .int .i64 rv, .int .i64 rt, .string rS, .slice x1 y1 z1, .slice u1 o1 l1] 24 (0, 0)) := by rw [hw4, drew_heapZ]; exact set6_new p5
          have q6a : w4.heap[w.heap.size + 1]? = some (.cells #[.bool sh, .int .i64 sv, .int .i64 st, .string sS, .slice x6 y6 z6, .slice u6 o6 l6] 24 (0, 0)) := by rw [hw4, drew_heapZ]; exact (set6_old (by omega)).trans p6
          have qy4 : w4.heap[wr.heap.size + 2]? = some (.cells #[.bool rh, .int .i64 rv, .int .i64 rt, .string rS, .slice x2 y2 z2, .slice u2 o2 l2] 24 (0, 0)) := by rw [hw4, drew_heapZ]; exact (set6_old (by omega)).trans qy
          have RX4 := rds_six p5 G4 RX3
          have RY4 := rds_six p5 G4 RY3
          have HW4 := Lib.hid hw4
          have HW5 := Lib.hid hW5
          clear hw4 hW5
          refine region_two (some 103) (some 104) (.agg #[.bool rh, .int .i64 rv, .int .i64 rt, .string rS, .slice x1 y1 z1, .slice u1 o1 l1]) (.agg #[.bool rh, .int .i64 rv, .int .i64 rt, .string rS, .slice x2 y2 z2, .slice u2 o2 l2]) W5 ?_ ?_
          · skip
            refine e_start (by kernel_rfl) ?_
            refine t_tail2 (i := 0) (k := 1) rfl rfl (by kernel_rfl) (by kernel_rfl) (by rfl) (by rfl) (fun K hK => ?_) (fun K hK => ?_)
            · skip
              obtain ⟨d0, d1, d2, d3, d4, d5, df⟩ := block_cells6 qx
              go_simp
              refine hK _ _ ?_
              clear hK K d0 d1 d2 d3 d4 d5 df
              try simp only [Act.put, List.setIfInBounds_toArray, List.set_cons_zero, List.set_cons_succ]
              refine t_tail2 (i := 1) (k := 2) rfl rfl (by kernel_rfl) (by kernel_rfl) (by rfl) (by rfl) (fun K hK => ?_) (fun K hK => ?_)
              · skip
                obtain ⟨d0, d1, d2, d3, d4, d5, df⟩ := block_cells6 qy
                go_simp
                refine hK _ _ ?_
                clear hK K d0 d1 d2 d3 d4 d5 df
                try simp only [Act.put, List.setIfInBounds_toArray, List.set_cons_zero, List.set_cons_succ]
                refine t_tail (i := 2) rfl (by kernel_rfl) (by kernel_rfl) (by rfl) (fun K hK => ?_)
                obtain ⟨d0, d1, d2, d3, d4, d5, df⟩ := block_cells6 p5
                go_simp
                refine hK _ _ ?_
                clear hK K d0 d1 d2 d3 d4 d5 df
                change wpO _ _ _ _ _ _ _ ((((((((w3.setCell ⟨w.heap.size, 0, none⟩ (.bool rh)).setCell ⟨w.heap.size, 1, none⟩ (.int .i64 rv)).setCell ⟨w.heap.size, 2, none⟩ (.int .i64 rt)).setCell ⟨w.heap.size, 3, none⟩ (.string rS)).setCell ⟨w.heap.size, 4, none⟩ (.slice x1 y1 z1)).setCell ⟨w.heap.size, 5, none⟩ (.slice u1 o1 l1))).drew)
                rw [← HW4.out]
                try simp only [Act.put, List.setIfInBounds_toArray, List.set_cons_zero, List.set_cons_succ]
                refine t_tail (i := 3) rfl (by kernel_rfl) (by kernel_rfl) (by rfl) (fun K hK => ?_)
                obtain ⟨d0, d1, d2, d3, d4, d5, df⟩ := block_cells6 q6a
                go_simp
                refine hK _ _ ?_
                clear hK K d0 d1 d2 d3 d4 d5 df
                try simp only [Act.put, List.setIfInBounds_toArray, List.set_cons_zero, List.set_cons_succ]
                refine t_over (by kernel_rfl) ?_
                exact ⟨rfl, rfl, HW5.out.symm⟩
              · skip
                obtain ⟨d0, d1, d2, d3, d4, d5, df⟩ := block_cells6 p5
                go_simp
                refine hK _ _ ?_
                clear hK K d0 d1 d2 d3 d4 d5 df
                change wpO _ _ _ _ _ _ _ ((((((((w3.setCell ⟨w.heap.size, 0, none⟩ (.bool rh)).setCell ⟨w.heap.size, 1, none⟩ (.int .i64 rv)).setCell ⟨w.heap.size, 2, none⟩ (.int .i64 rt)).setCell ⟨w.heap.size, 3, none⟩ (.string rS)).setCell ⟨w.heap.size, 4, none⟩ (.slice x1 y1 z1)).setCell ⟨w.heap.size, 5, none⟩ (.slice u1 o1 l1))).drew)
                rw [← HW4.out]
                try simp only [Act.put, List.setIfInBounds_toArray, List.set_cons_zero, List.set_cons_succ]
                refine t_tail (i := 1) rfl (by kernel_rfl) (by kernel_rfl) (by rfl) (fun K hK => ?_)
                obtain ⟨d0, d1, d2, d3, d4, d5, df⟩ := block_cells6 qy4
                go_simp
                refine hK _ _ ?_
                clear hK K d0 d1 d2 d3 d4 d5 df
                try simp only [Act.put, List.setIfInBounds_toArray, List.set_cons_zero, List.set_cons_succ]
                refine t_tail (i := 3) rfl (by kernel_rfl) (by kernel_rfl) (by rfl) (fun K hK => ?_)
                obtain ⟨d0, d1, d2, d3, d4, d5, df⟩ := block_cells6 q6a
                go_simp
                refine hK _ _ ?_
                clear hK K d0 d1 d2 d3 d4 d5 df
                try simp only [Act.put, List.setIfInBounds_toArray, List.set_cons_zero, List.set_cons_succ]
                refine t_over (by kernel_rfl) ?_
                exact ⟨rfl, rfl, HW5.out.symm⟩
            · skip
              obtain ⟨d0, d1, d2, d3, d4, d5, df⟩ := block_cells6 qy
              go_simp
              refine hK _ _ ?_
              clear hK K d0 d1 d2 d3 d4 d5 df
              try simp only [Act.put, List.setIfInBounds_toArray, List.set_cons_zero, List.set_cons_succ]
              refine t_tail (i := 0) rfl (by kernel_rfl) (by kernel_rfl) (by rfl) (fun K hK => ?_)
              obtain ⟨d0, d1, d2, d3, d4, d5, df⟩ := block_cells6 qx
              go_simp
              refine hK _ _ ?_
              clear hK K d0 d1 d2 d3 d4 d5 df
              try simp only [Act.put, List.setIfInBounds_toArray, List.set_cons_zero, List.set_cons_succ]
              refine t_tail (i := 2) rfl (by kernel_rfl) (by kernel_rfl) (by rfl) (fun K hK => ?_)
              obtain ⟨d0, d1, d2, d3, d4, d5, df⟩ := block_cells6 p5
              go_simp
              refine hK _ _ ?_
              clear hK K d0 d1 d2 d3 d4 d5 df
              change wpO _ _ _ _ _ _ _ ((((((((w3.setCell ⟨w.heap.size, 0, none⟩ (.bool rh)).setCell ⟨w.heap.size, 1, none⟩ (.int .i64 rv)).setCell ⟨w.heap.size, 2, none⟩ (.int .i64 rt)).setCell ⟨w.heap.size, 3, none⟩ (.string rS)).setCell ⟨w.heap.size, 4, none⟩ (.slice x1 y1 z1)).setCell ⟨w.heap.size, 5, none⟩ (.slice u1 o1 l1))).drew)
              rw [← HW4.out]
              try simp only [Act.put, List.setIfInBounds_toArray, List.set_cons_zero, List.set_cons_succ]
              refine t_tail (i := 3) rfl (by kernel_rfl) (by kernel_rfl) (by rfl) (fun K hK => ?_)
              obtain ⟨d0, d1, d2, d3, d4, d5, df⟩ := block_cells6 q6a
              go_simp
              refine hK _ _ ?_
              clear hK K d0 d1 d2 d3 d4 d5 df
              try simp only [Act.put, List.setIfInBounds_toArray, List.set_cons_zero, List.set_cons_succ]
              refine t_over (by kernel_rfl) ?_
              exact ⟨rfl, rfl, HW5.out.symm⟩
          try simp only [Act.put, List.setIfInBounds_toArray, List.set_cons_zero, List.set_cons_succ]
          have hw4 := HW4.out
          have hW5 := HW5.out
          have G5 : w4.grownBy W5 (some (w.heap.size + 1)) := by rw [hW5]; exact set6_grown
          have q5b : W5.heap[w.heap.size]? = some (.cells #[.bool rh, .int .i64 rv, .int .i64 rt, .string rS, .slice x1 y1 z1, .slice u1 o1 l1] 24 (0, 0)) := by rw [hW5]; exact (set6_old (by omega)).trans q5a
          have q6b : W5.heap[w.heap.size + 1]? = some (.cells #[.bool rh, .int .i64 rv, .int .i64 rt, .string rS, .slice x2 y2 z2, .slice u2 o2 l2] 24 (0, 0)) := by rw [hW5]; exact set6_new q6a
          have RX5 := rds_six q6a G5 RX4
          have RY5 := rds_six q6a G5 RY4
          have M5 := below_grownB M4 G5 M4.size (by omega)
          clear hW5 hw4 HW4 HW5 G4 qy4 G5 q5a q6a RX4 RY4 RX3 RY3 M4 N3 p5 p6 qx qy q5 q6 HRs HWs HMs HSs
          have FM0 := fun w' (g : Below W5.heap.size W5 w') => slMay_any (⟨rh, rv, rt, rb, rp, rc⟩ : Sl) (.slice x1 y1 z1) (.slice u1 o1 l1) w' (RX5.below g (Nat.le_refl _))
          have FP0 := fun w' (g : Below W5.heap.size W5 w') => prepared_any (⟨rh, rv, rt, rb, rp, rc⟩ : Sl) (.slice x1 y1 z1) (.slice u1 o1 l1) n w' (RX5.below g (Nat.le_refl _)) HN.out
          have FQ0 := fun w' (g : Below W5.heap.size W5 w') => refPrepared_any (⟨rh, rv, rt, rb, rp, rc⟩ : Sl) (.slice x2 y2 z2) (.slice u2 o2 l2) n w' (RY5.below g (Nat.le_refl _)) HN.out (len_ps HMr.out)
          have FC0 := fun w' (g : Below W5.heap.size W5 w') => committed_any (⟨rh, rv, rt, rb, rp, rc⟩ : Sl) (.slice x1 y1 z1) (.slice u1 o1 l1) n w' (RX5.below g (Nat.le_refl _)) HN.out
          have FD0 := fun w' (g : Below W5.heap.size W5 w') => refCommitted_any (⟨rh, rv, rt, rb, rp, rc⟩ : Sl) (.slice x2 y2 z2) (.slice u2 o2 l2) n w' (RY5.below g (Nat.le_refl _)) HN.out (len_ps HMr.out) (len_cs HMr.out)
          rw [HMr.out] at FM0
          unfold sV at FM0 FP0 FQ0 FC0 FD0
          simp only at FM0 FP0 FQ0 FC0 FD0
          rw [← HSr.out] at FM0 FP0 FQ0 FC0 FD0
          obtain ⟨PB, hPB⟩ : ∃ P, P = prepB (⟨rh, rv, rt, rb, rp, rc⟩ : Sl) n := ⟨_, rfl⟩
          obtain ⟨CB, hCB⟩ : ∃ P, P = comB (⟨rh, rv, rt, rb, rp, rc⟩ : Sl) n := ⟨_, rfl⟩
          rw [← hPB] at FP0 FQ0
          rw [← hCB] at FC0 FD0
          have FM := Lib.hid FM0
          have FP := Lib.hid FP0
          have FQ := Lib.hid FQ0
          have FC := Lib.hid FC0
          have FD := Lib.hid FD0
          clear FM0 FP0 FQ0 FC0 FD0 hPB hCB
          have K0 : Below W5.heap.size W5 W5.drew := (Below.refl _ _).drew
          replace q5b := show W5.drew.heap[w.heap.size]? = _ from q5b
          replace q6b := show W5.drew.heap[w.heap.size + 1]? = _ from q6b
          have HX5 := Lib.hid RX5
          have HY5 := Lib.hid RY5
          clear RX5 RY5
          go_upto_region 20 with fail
          refine g_start (by kernel_rfl) ?_
          refine g_take (i := 0) (d := (some 105)) (v := ?_) rfl rfl (by kernel_rfl) (fun _ _ _ h => h) (by rfl) (fun w' hb' => ?_) ?_
          rotate_left
          · obtain ⟨d0, d1, d2, d3, d4, d5, df⟩ := block_cells6 ((hb'.block _ (lt_of_block q5b)).trans q5b); (try go_simp); (try with_reducible rfl)
          try simp only [Act.put, List.setIfInBounds_toArray, List.set_cons_zero, List.set_cons_succ]
          refine g_run (i := 1) rfl (by kernel_rfl) (by rfl) (fun K hK => ?_)
          go_simp; refine (FM.out _ K0).mono ?_; rintro e v1 ⟨rfl, g⟩; have q5b_1 := (g.block _ (lt_of_block q5b)).trans q5b; have q6b_1 := (g.block _ (lt_of_block q6b)).trans q6b; have K1 := chain K0 g; refine hK _ _ ⟨g, ?_⟩; clear hK K g
          try simp only [Act.put, List.setIfInBounds_toArray, List.set_cons_zero, List.set_cons_succ]
          refine g_take (i := 2) (d := (some 107)) (v := ?_) rfl rfl (by kernel_rfl) (fun _ _ _ h => h) (by rfl) (fun w' hb' => ?_) ?_
          rotate_left
          · (try go_simp); (try with_reducible rfl)
          try simp only [Act.put, List.setIfInBounds_toArray, List.set_cons_zero, List.set_cons_succ]
          refine g_take (i := 3) (d := (some 108)) (v := ?_) rfl rfl (by kernel_rfl) (fun _ _ _ h => h) (by rfl) (fun w' hb' => ?_) ?_
          rotate_left
          · (try go_simp); (try with_reducible rfl)
          try simp only [Act.put, List.setIfInBounds_toArray, List.set_cons_zero, List.set_cons_succ]
          refine g_take (i := 4) (d := (some 109)) (v := ?_) rfl rfl (by kernel_rfl) (fun _ _ _ h => h) (by rfl) (fun w' hb' => ?_) ?_
          rotate_left
          · obtain ⟨d0, d1, d2, d3, d4, d5, df⟩ := block_cells6 ((hb'.block _ (lt_of_block q5b_1)).trans q5b_1); (try go_simp); (try with_reducible rfl)
          try simp only [Act.put, List.setIfInBounds_toArray, List.set_cons_zero, List.set_cons_succ]
          refine g_take (i := 5) (d := (some 110)) (v := ?_) rfl rfl (by kernel_rfl) (fun _ _ _ h => h) (by rfl) (fun w' hb' => ?_) ?_
          rotate_left
          · (try go_simp); (try with_reducible rfl)
          try simp only [Act.put, List.setIfInBounds_toArray, List.set_cons_zero, List.set_cons_succ]
          refine g_take (i := 7) (d := (some 112)) (v := ?_) rfl rfl (by kernel_rfl) (fun _ _ _ h => h) (by rfl) (fun w' hb' => ?_) ?_
          rotate_left
          · obtain ⟨d0, d1, d2, d3, d4, d5, df⟩ := block_cells6 ((hb'.block _ (lt_of_block q6b_1)).trans q6b_1); (try go_simp); (try with_reducible rfl)
          try simp only [Act.put, List.setIfInBounds_toArray, List.set_cons_zero, List.set_cons_succ]
          refine g_take (i := 8) (d := (some 113)) (v := ?_) rfl rfl (by kernel_rfl) (fun _ _ _ h => h) (by rfl) (fun w' hb' => ?_) ?_
          rotate_left
          · (try go_simp); (try with_reducible rfl)
          try simp only [Act.put, List.setIfInBounds_toArray, List.set_cons_zero, List.set_cons_succ]
          refine g_run (i := 6) rfl (by kernel_rfl) (by rfl) (fun K hK => ?_)
          go_simp; refine (FP.out _ K1).mono ?_; rintro e v2 ⟨rfl, g⟩; have q5b_2 := (g.block _ (lt_of_block q5b_1)).trans q5b_1; have q6b_2 := (g.block _ (lt_of_block q6b_1)).trans q6b_1; have K2 := chain K1 g; refine hK _ _ ⟨g, ?_⟩; clear hK K g
          try simp only [Act.put, List.setIfInBounds_toArray, List.set_cons_zero, List.set_cons_succ]
          refine g_run (i := 9) rfl (by kernel_rfl) (by rfl) (fun K hK => ?_)
          go_simp; refine (FQ.out _ K2).mono ?_; rintro e v3 ⟨rfl, g⟩; have q5b_3 := (g.block _ (lt_of_block q5b_2)).trans q5b_2; have q6b_3 := (g.block _ (lt_of_block q6b_2)).trans q6b_2; have K3 := chain K2 g; refine hK _ _ ⟨g, ?_⟩; clear hK K g
          try simp only [Act.put, List.setIfInBounds_toArray, List.set_cons_zero, List.set_cons_succ]
          refine g_take (i := 10) (d := (some 115)) (v := ?_) rfl rfl (by kernel_rfl) (fun _ _ _ h => h) (by rfl) (fun w' hb' => ?_) ?_
          rotate_left
          · (try go_simp); (try with_reducible rfl)
          try simp only [Act.put, List.setIfInBounds_toArray, List.set_cons_zero, List.set_cons_succ]
          refine g_take (i := 11) (d := (some 116)) (v := ?_) rfl rfl (by kernel_rfl) (fun _ _ _ h => h) (by rfl) (fun w' hb' => ?_) ?_
          rotate_left
          · (try go_simp); (try with_reducible rfl)
          try simp only [Act.put, List.setIfInBounds_toArray, List.set_cons_zero, List.set_cons_succ]
          refine g_take (i := 12) (d := (some 117)) (v := ?_) rfl rfl (by kernel_rfl) (fun _ _ _ h => h) (by rfl) (fun w' hb' => ?_) ?_
          rotate_left
          · (try go_simp); (try with_reducible rfl)
          try simp only [Act.put, List.setIfInBounds_toArray, List.set_cons_zero, List.set_cons_succ]
          refine g_take (i := 13) (d := (some 118)) (v := ?_) rfl rfl (by kernel_rfl) (fun _ _ _ h => h) (by rfl) (fun w' hb' => ?_) ?_
          rotate_left
          · obtain ⟨d0, d1, d2, d3, d4, d5, df⟩ := block_cells6 ((hb'.block _ (lt_of_block q5b_3)).trans q5b_3); (try go_simp); (try with_reducible rfl)
          try simp only [Act.put, List.setIfInBounds_toArray, List.set_cons_zero, List.set_cons_succ]
          refine g_take (i := 14) (d := (some 119)) (v := ?_) rfl rfl (by kernel_rfl) (fun _ _ _ h => h) (by rfl) (fun w' hb' => ?_) ?_
          rotate_left
          · (try go_simp); (try with_reducible rfl)
          try simp only [Act.put, List.setIfInBounds_toArray, List.set_cons_zero, List.set_cons_succ]
          refine g_take (i := 16) (d := (some 121)) (v := ?_) rfl rfl (by kernel_rfl) (fun _ _ _ h => h) (by rfl) (fun w' hb' => ?_) ?_
          rotate_left
          · obtain ⟨d0, d1, d2, d3, d4, d5, df⟩ := block_cells6 ((hb'.block _ (lt_of_block q6b_3)).trans q6b_3); (try go_simp); (try with_reducible rfl)
          try simp only [Act.put, List.setIfInBounds_toArray, List.set_cons_zero, List.set_cons_succ]
          refine g_take (i := 17) (d := (some 122)) (v := ?_) rfl rfl (by kernel_rfl) (fun _ _ _ h => h) (by rfl) (fun w' hb' => ?_) ?_
          rotate_left
          · (try go_simp); (try with_reducible rfl)
          try simp only [Act.put, List.setIfInBounds_toArray, List.set_cons_zero, List.set_cons_succ]
          refine g_run (i := 15) rfl (by kernel_rfl) (by rfl) (fun K hK => ?_)
          go_simp; refine (FC.out _ K3).mono ?_; rintro e v4 ⟨rfl, g⟩; have q5b_4 := (g.block _ (lt_of_block q5b_3)).trans q5b_3; have q6b_4 := (g.block _ (lt_of_block q6b_3)).trans q6b_3; have K4 := chain K3 g; refine hK _ _ ⟨g, ?_⟩; clear hK K g
          try simp only [Act.put, List.setIfInBounds_toArray, List.set_cons_zero, List.set_cons_succ]
          refine g_run (i := 18) rfl (by kernel_rfl) (by rfl) (fun K hK => ?_)
          go_simp; refine (FD.out _ K4).mono ?_; rintro e v5 ⟨rfl, g⟩; have q5b_5 := (g.block _ (lt_of_block q5b_4)).trans q5b_4; have q6b_5 := (g.block _ (lt_of_block q6b_4)).trans q6b_4; have K5 := chain K4 g; refine hK _ _ ⟨g, ?_⟩; clear hK K g
          try simp only [Act.put, List.setIfInBounds_toArray, List.set_cons_zero, List.set_cons_succ]
          refine g_take (i := 19) (d := (some 124)) (v := ?_) rfl rfl (by kernel_rfl) (fun _ _ _ h => h) (by rfl) (fun w' hb' => ?_) ?_
          rotate_left
          · (try go_simp); (try with_reducible rfl)
          try simp only [Act.put, List.setIfInBounds_toArray, List.set_cons_zero, List.set_cons_succ]
          refine g_take (i := 20) (d := (some 125)) (v := ?_) rfl rfl (by kernel_rfl) (fun _ _ _ h => h) (by rfl) (fun w' hb' => ?_) ?_
          rotate_left
          · (try go_simp); (try with_reducible rfl)
          try simp only [Act.put, List.setIfInBounds_toArray, List.set_cons_zero, List.set_cons_succ]
          refine g_done (by kernel_rfl) ?_
          go_wp2_with fail
          exact ⟨⟨k + 1, rh, rv, rt, rb, rp, rc, rS, x1, y1, z1, u1, o1, l1, x2, y2, z2, u2, o2, l2, by omega, by omega, by push_cast; rfl, HSr, q5b_5, q6b_5, Lib.hid (HX5.out.below K5 (Nat.le_refl _)), Lib.hid (HY5.out.below K5 (Nat.le_refl _)), HMr, chain M5 K5⟩, by simp [intOf]; omega⟩
        · obtain ⟨E, hEE⟩ : ∃ E : Int, E = (EN : Int) := ⟨_, rfl⟩
          have hE0 : (E == 0) = false := by rw [hEE]; simpa using hE
          rw [← hEE] at CX0 CY0
          have CX := Lib.hid CX0
          have CY := Lib.hid CY0
          clear CX0 CY0 HMr1 hE hEE
          have p5 := (N0.block _ (lt_of_block q5)).trans q5
          obtain ⟨d0, d1, d2, d3, d4, d5, df⟩ := block_cells6 p5
          obtain ⟨e0, e1, e2, ef⟩ := block_cells3 qv
          go_upto_region 9 with ((with_reducible refine (CX.out _ N0).mono ?_); rintro e w1 ⟨x1, y1, z1, u1, o1, l1, rfl, R1, g⟩; clear d0 d1 d2 d3 d4 d5 df e0 e1 e2 ef p5; (replace qx := (g.block _ (lt_of_block qx)).trans qx); (replace qv := (g.block _ (lt_of_block qv)).trans qv); (replace qy := (g.block _ (lt_of_block qy)).trans qy); (obtain ⟨d0, d1, d2, d3, d4, d5, df⟩ := block_cells6 qx))
          clear d0 d1 d2 d3 d4 d5 df
          obtain ⟨W1, hW1⟩ : ∃ W, W = ((((((w1.setCell ⟨wr.heap.size + 1, 0, none⟩ (.bool rh)).setCell ⟨wr.heap.size + 1, 1, none⟩ (.int .i64 rv)).setCell ⟨wr.heap.size + 1, 2, none⟩ (.int .i64 rt)).setCell ⟨wr.heap.size + 1, 3, none⟩ (.string rS)).setCell ⟨wr.heap.size + 1, 4, none⟩ (.slice x1 y1 z1)).setCell ⟨wr.heap.size + 1, 5, none⟩ (.slice u1 o1 l1)) := ⟨_, rfl⟩
          rw [← hW1]
          have GW1 : w1.grownBy W1 (some (wr.heap.size + 1)) := by rw [hW1]; exact set6_grown
          have NW1 := below_grownB (chain N0 g) GW1 (chain N0 g).size (by omega)
          have RXW1 := rds_six qx GW1 (R1)
          have qxn : W1.heap[wr.heap.size + 1]? = some (.cells #[.bool rh, .int .i64 rv, .int .i64 rt, .string rS, .slice x1 y1 z1, .slice u1 o1 l1] 24 (0, 0)) := by rw [hW1]; exact set6_new qx
          have qvn := (set6_old (w := w1) (B := wr.heap.size + 1) (k := wr.heap.size) (u0 := .bool rh) (u1 := .int .i64 rv) (u2 := .int .i64 rt) (u3 := .string rS) (u4 := .slice x1 y1 z1) (u5 := .slice u1 o1 l1) (by omega)).trans qv
          rw [← hW1] at qvn
          have qyn := (set6_old (w := w1) (B := wr.heap.size + 1) (k := wr.heap.size + 2) (u0 := .bool rh) (u1 := .int .i64 rv) (u2 := .int .i64 rt) (u3 := .string rS) (u4 := .slice x1 y1 z1) (u5 := .slice u1 o1 l1) (by omega)).trans qy
          rw [← hW1] at qyn
          clear hW1 GW1 qx qv qy
          have qx := qxn
          clear qxn
          have qv := qvn
          clear qvn
          have qy := qyn
          clear qyn
          clear R1 g N0 CX
          have p6 := (NW1.block _ (lt_of_block q6)).trans q6
          obtain ⟨d0, d1, d2, d3, d4, d5, df⟩ := block_cells6 p6
          obtain ⟨e0, e1, e2, ef⟩ := block_cells3 qv
          go_upto_region 16 with ((with_reducible refine (CY.out _ NW1).mono ?_); rintro e w2 ⟨x2, y2, z2, u2, o2, l2, rfl, R2, g⟩; clear d0 d1 d2 d3 d4 d5 df e0 e1 e2 ef p6; (replace qx := (g.block _ (lt_of_block qx)).trans qx); (replace qv := (g.block _ (lt_of_block qv)).trans qv); (replace qy := (g.block _ (lt_of_block qy)).trans qy); (obtain ⟨d0, d1, d2, d3, d4, d5, df⟩ := block_cells6 qy))
          clear d0 d1 d2 d3 d4 d5 df
          obtain ⟨W2, hW2⟩ : ∃ W, W = ((((((w2.setCell ⟨wr.heap.size + 2, 0, none⟩ (.bool rh)).setCell ⟨wr.heap.size + 2, 1, none⟩ (.int .i64 rv)).setCell ⟨wr.heap.size + 2, 2, none⟩ (.int .i64 rt)).setCell ⟨wr.heap.size + 2, 3, none⟩ (.string rS)).setCell ⟨wr.heap.size + 2, 4, none⟩ (.slice x2 y2 z2)).setCell ⟨wr.heap.size + 2, 5, none⟩ (.slice u2 o2 l2)) := ⟨_, rfl⟩
          rw [← hW2]
          have GW2 : w2.grownBy W2 (some (wr.heap.size + 2)) := by rw [hW2]; exact set6_grown
          have NW2 := below_grownB (chain NW1 g) GW2 (chain NW1 g).size (by omega)
          have RXW2 := rds_six qy GW2 (RXW1.below g (Nat.le_refl _))
          have RYW2 := rds_six qy GW2 (R2)
          have qyn : W2.heap[wr.heap.size + 2]? = some (.cells #[.bool rh, .int .i64 rv, .int .i64 rt, .string rS, .slice x2 y2 z2, .slice u2 o2 l2] 24 (0, 0)) := by rw [hW2]; exact set6_new qy
          have qvn := (set6_old (w := w2) (B := wr.heap.size + 2) (k := wr.heap.size) (u0 := .bool rh) (u1 := .int .i64 rv) (u2 := .int .i64 rt) (u3 := .string rS) (u4 := .slice x2 y2 z2) (u5 := .slice u2 o2 l2) (by omega)).trans qv
          rw [← hW2] at qvn
          have qxn := (set6_old (w := w2) (B := wr.heap.size + 2) (k := wr.heap.size + 1) (u0 := .bool rh) (u1 := .int .i64 rv) (u2 := .int .i64 rt) (u3 := .string rS) (u4 := .slice x2 y2 z2) (u5 := .slice u2 o2 l2) (by omega)).trans qx
          rw [← hW2] at qxn
          clear hW2 GW2 qy qv qx
          have qy := qyn
          clear qyn
          have qv := qvn
          clear qvn
          have qx := qxn
          clear qxn
          clear R2 g NW1 CY qv RXW1
          have SA0 := fun w' (g : Below W2.heap.size W2 w') => same_yes (⟨rh, rv, rt, rb, rp, rc⟩ : Sl) (.slice x1 y1 z1) (.slice u1 o1 l1) (.slice x2 y2 z2) (.slice u2 o2 l2) w' (RXW2.below g (Nat.le_refl _)) (RYW2.below g (Nat.le_refl _))
          unfold sV at SA0
          simp only at SA0
          rw [← HSr.out] at SA0
          have SA := Lib.hid SA0
          clear SA0
          obtain ⟨d0, d1, d2, d3, d4, d5, df⟩ := block_cells6 qx
          obtain ⟨e0, e1, e2, e3, e4, e5, ef⟩ := block_cells6 qy
          go_upto_region 20 with ((with_reducible refine (SA.out _ (Below.refl _ _)).mono ?_); rintro e w3 ⟨rfl, g⟩; clear d0 d1 d2 d3 d4 d5 df e0 e1 e2 e3 e4 e5 ef; (replace qx := (g.block _ (lt_of_block qx)).trans qx); (replace qy := (g.block _ (lt_of_block qy)).trans qy); (have RX3 := RXW2.below g (Nat.le_refl _)); (have RY3 := RYW2.below g (Nat.le_refl _)); (have N3 := chain NW2 g); clear g)
          clear RXW2 RYW2 NW2 SA RX3 RY3 qx qy HSr
          have q5b := (N3.block _ (lt_of_block q5)).trans q5
          have q6b := (N3.block _ (lt_of_block q6)).trans q6
          have RX5 := HRs.out.below N3 (Nat.le_refl _)
          have RY5 := HWs.out.below N3 (Nat.le_refl _)
          have M5 := chain BW N3
          clear q5 q6 HRs HWs N3 BW
          have FM0 := fun w' (g : Below w3.heap.size w3 w') => slMay_any (⟨sh, sv, st, sb, sp, sc⟩ : Sl) (.slice x5 y5 z5) (.slice u5 o5 l5) w' (RX5.below g (Nat.le_refl _))
          have FP0 := fun w' (g : Below w3.heap.size w3 w') => prepared_any (⟨sh, sv, st, sb, sp, sc⟩ : Sl) (.slice x5 y5 z5) (.slice u5 o5 l5) n w' (RX5.below g (Nat.le_refl _)) HN.out
          have FQ0 := fun w' (g : Below w3.heap.size w3 w') => refPrepared_any (⟨sh, sv, st, sb, sp, sc⟩ : Sl) (.slice x6 y6 z6) (.slice u6 o6 l6) n w' (RY5.below g (Nat.le_refl _)) HN.out (len_ps HMs.out)
          have FC0 := fun w' (g : Below w3.heap.size w3 w') => committed_any (⟨sh, sv, st, sb, sp, sc⟩ : Sl) (.slice x5 y5 z5) (.slice u5 o5 l5) n w' (RX5.below g (Nat.le_refl _)) HN.out
          have FD0 := fun w' (g : Below w3.heap.size w3 w') => refCommitted_any (⟨sh, sv, st, sb, sp, sc⟩ : Sl) (.slice x6 y6 z6) (.slice u6 o6 l6) n w' (RY5.below g (Nat.le_refl _)) HN.out (len_ps HMs.out) (len_cs HMs.out)
          rw [HMs.out] at FM0
          unfold sV at FM0 FP0 FQ0 FC0 FD0
          simp only at FM0 FP0 FQ0 FC0 FD0
          rw [← HSs.out] at FM0 FP0 FQ0 FC0 FD0
          obtain ⟨PB, hPB⟩ : ∃ P, P = prepB (⟨sh, sv, st, sb, sp, sc⟩ : Sl) n := ⟨_, rfl⟩
          obtain ⟨CB, hCB⟩ : ∃ P, P = comB (⟨sh, sv, st, sb, sp, sc⟩ : Sl) n := ⟨_, rfl⟩
          rw [← hPB] at FP0 FQ0
          rw [← hCB] at FC0 FD0
          have FM := Lib.hid FM0
          have FP := Lib.hid FP0
          have FQ := Lib.hid FQ0
          have FC := Lib.hid FC0
          have FD := Lib.hid FD0
          clear FM0 FP0 FQ0 FC0 FD0 hPB hCB
          have K0 : Below w3.heap.size w3 w3.drew := (Below.refl _ _).drew
          replace q5b := show w3.drew.heap[w.heap.size]? = _ from q5b
          replace q6b := show w3.drew.heap[w.heap.size + 1]? = _ from q6b
          have HX5 := Lib.hid RX5
          have HY5 := Lib.hid RY5
          clear RX5 RY5
          refine g_start (by kernel_rfl) ?_
          refine g_take (i := 0) (d := (some 105)) (v := ?_) rfl rfl (by kernel_rfl) (fun _ _ _ h => h) (by rfl) (fun w' hb' => ?_) ?_
          rotate_left
          · obtain ⟨d0, d1, d2, d3, d4, d5, df⟩ := block_cells6 ((hb'.block _ (lt_of_block q5b)).trans q5b); (try go_simp); (try with_reducible rfl)
          try simp only [Act.put, List.setIfInBounds_toArray, List.set_cons_zero, List.set_cons_succ]
          refine g_run (i := 1) rfl (by kernel_rfl) (by rfl) (fun K hK => ?_)
          go_simp; refine (FM.out _ K0).mono ?_; rintro e v1 ⟨rfl, g⟩; have q5b_1 := (g.block _ (lt_of_block q5b)).trans q5b; have q6b_1 := (g.block _ (lt_of_block q6b)).trans q6b; have K1 := chain K0 g; refine hK _ _ ⟨g, ?_⟩; clear hK K g
          try simp only [Act.put, List.setIfInBounds_toArray, List.set_cons_zero, List.set_cons_succ]
          refine g_take (i := 2) (d := (some 107)) (v := ?_) rfl rfl (by kernel_rfl) (fun _ _ _ h => h) (by rfl) (fun w' hb' => ?_) ?_
          rotate_left
          · (try go_simp); (try with_reducible rfl)
          try simp only [Act.put, List.setIfInBounds_toArray, List.set_cons_zero, List.set_cons_succ]
          refine g_take (i := 3) (d := (some 108)) (v := ?_) rfl rfl (by kernel_rfl) (fun _ _ _ h => h) (by rfl) (fun w' hb' => ?_) ?_
          rotate_left
          · (try go_simp); (try with_reducible rfl)
          try simp only [Act.put, List.setIfInBounds_toArray, List.set_cons_zero, List.set_cons_succ]
          refine g_take (i := 4) (d := (some 109)) (v := ?_) rfl rfl (by kernel_rfl) (fun _ _ _ h => h) (by rfl) (fun w' hb' => ?_) ?_
          rotate_left
          · obtain ⟨d0, d1, d2, d3, d4, d5, df⟩ := block_cells6 ((hb'.block _ (lt_of_block q5b_1)).trans q5b_1); (try go_simp); (try with_reducible rfl)
          try simp only [Act.put, List.setIfInBounds_toArray, List.set_cons_zero, List.set_cons_succ]
          refine g_take (i := 5) (d := (some 110)) (v := ?_) rfl rfl (by kernel_rfl) (fun _ _ _ h => h) (by rfl) (fun w' hb' => ?_) ?_
          rotate_left
          · (try go_simp); (try with_reducible rfl)
          try simp only [Act.put, List.setIfInBounds_toArray, List.set_cons_zero, List.set_cons_succ]
          refine g_take (i := 7) (d := (some 112)) (v := ?_) rfl rfl (by kernel_rfl) (fun _ _ _ h => h) (by rfl) (fun w' hb' => ?_) ?_
          rotate_left
          · obtain ⟨d0, d1, d2, d3, d4, d5, df⟩ := block_cells6 ((hb'.block _ (lt_of_block q6b_1)).trans q6b_1); (try go_simp); (try with_reducible rfl)
          try simp only [Act.put, List.setIfInBounds_toArray, List.set_cons_zero, List.set_cons_succ]
          refine g_take (i := 8) (d := (some 113)) (v := ?_) rfl rfl (by kernel_rfl) (fun _ _ _ h => h) (by rfl) (fun w' hb' => ?_) ?_
          rotate_left
          · (try go_simp); (try with_reducible rfl)
          try simp only [Act.put, List.setIfInBounds_toArray, List.set_cons_zero, List.set_cons_succ]
          refine g_run (i := 6) rfl (by kernel_rfl) (by rfl) (fun K hK => ?_)
          go_simp; refine (FP.out _ K1).mono ?_; rintro e v2 ⟨rfl, g⟩; have q5b_2 := (g.block _ (lt_of_block q5b_1)).trans q5b_1; have q6b_2 := (g.block _ (lt_of_block q6b_1)).trans q6b_1; have K2 := chain K1 g; refine hK _ _ ⟨g, ?_⟩; clear hK K g
          try simp only [Act.put, List.setIfInBounds_toArray, List.set_cons_zero, List.set_cons_succ]
          refine g_run (i := 9) rfl (by kernel_rfl) (by rfl) (fun K hK => ?_)
          go_simp; refine (FQ.out _ K2).mono ?_; rintro e v3 ⟨rfl, g⟩; have q5b_3 := (g.block _ (lt_of_block q5b_2)).trans q5b_2; have q6b_3 := (g.block _ (lt_of_block q6b_2)).trans q6b_2; have K3 := chain K2 g; refine hK _ _ ⟨g, ?_⟩; clear hK K g
          try simp only [Act.put, List.setIfInBounds_toArray, List.set_cons_zero, List.set_cons_succ]
          refine g_take (i := 10) (d := (some 115)) (v := ?_) rfl rfl (by kernel_rfl) (fun _ _ _ h => h) (by rfl) (fun w' hb' => ?_) ?_
          rotate_left
          · (try go_simp); (try with_reducible rfl)
          try simp only [Act.put, List.setIfInBounds_toArray, List.set_cons_zero, List.set_cons_succ]
          refine g_take (i := 11) (d := (some 116)) (v := ?_) rfl rfl (by kernel_rfl) (fun _ _ _ h => h) (by rfl) (fun w' hb' => ?_) ?_
          rotate_left
          · (try go_simp); (try with_reducible rfl)
          try simp only [Act.put, List.setIfInBounds_toArray, List.set_cons_zero, List.set_cons_succ]
          refine g_take (i := 12) (d := (some 117)) (v := ?_) rfl rfl (by kernel_rfl) (fun _ _ _ h => h) (by rfl) (fun w' hb' => ?_) ?_
          rotate_left
          · (try go_simp); (try with_reducible rfl)
          try simp only [Act.put, List.setIfInBounds_toArray, List.set_cons_zero, List.set_cons_succ]
          refine g_take (i := 13) (d := (some 118)) (v := ?_) rfl rfl (by kernel_rfl) (fun _ _ _ h => h) (by rfl) (fun w' hb' => ?_) ?_
          rotate_left
          · obtain ⟨d0, d1, d2, d3, d4, d5, df⟩ := block_cells6 ((hb'.block _ (lt_of_block q5b_3)).trans q5b_3); (try go_simp); (try with_reducible rfl)
          try simp only [Act.put, List.setIfInBounds_toArray, List.set_cons_zero, List.set_cons_succ]
          refine g_take (i := 14) (d := (some 119)) (v := ?_) rfl rfl (by kernel_rfl) (fun _ _ _ h => h) (by rfl) (fun w' hb' => ?_) ?_
          rotate_left
          · (try go_simp); (try with_reducible rfl)
          try simp only [Act.put, List.setIfInBounds_toArray, List.set_cons_zero, List.set_cons_succ]
          refine g_take (i := 16) (d := (some 121)) (v := ?_) rfl rfl (by kernel_rfl) (fun _ _ _ h => h) (by rfl) (fun w' hb' => ?_) ?_
          rotate_left
          · obtain ⟨d0, d1, d2, d3, d4, d5, df⟩ := block_cells6 ((hb'.block _ (lt_of_block q6b_3)).trans q6b_3); (try go_simp); (try with_reducible rfl)
          try simp only [Act.put, List.setIfInBounds_toArray, List.set_cons_zero, List.set_cons_succ]
          refine g_take (i := 17) (d := (some 122)) (v := ?_) rfl rfl (by kernel_rfl) (fun _ _ _ h => h) (by rfl) (fun w' hb' => ?_) ?_
          rotate_left
          · (try go_simp); (try with_reducible rfl)
          try simp only [Act.put, List.setIfInBounds_toArray, List.set_cons_zero, List.set_cons_succ]
          refine g_run (i := 15) rfl (by kernel_rfl) (by rfl) (fun K hK => ?_)
          go_simp; refine (FC.out _ K3).mono ?_; rintro e v4 ⟨rfl, g⟩; have q5b_4 := (g.block _ (lt_of_block q5b_3)).trans q5b_3; have q6b_4 := (g.block _ (lt_of_block q6b_3)).trans q6b_3; have K4 := chain K3 g; refine hK _ _ ⟨g, ?_⟩; clear hK K g
          try simp only [Act.put, List.setIfInBounds_toArray, List.set_cons_zero, List.set_cons_succ]
          refine g_run (i := 18) rfl (by kernel_rfl) (by rfl) (fun K hK => ?_)
          go_simp; refine (FD.out _ K4).mono ?_; rintro e v5 ⟨rfl, g⟩; have q5b_5 := (g.block _ (lt_of_block q5b_4)).trans q5b_4; have q6b_5 := (g.block _ (lt_of_block q6b_4)).trans q6b_4; have K5 := chain K4 g; refine hK _ _ ⟨g, ?_⟩; clear hK K g
          try simp only [Act.put, List.setIfInBounds_toArray, List.set_cons_zero, List.set_cons_succ]
          refine g_take (i := 19) (d := (some 124)) (v := ?_) rfl rfl (by kernel_rfl) (fun _ _ _ h => h) (by rfl) (fun w' hb' => ?_) ?_
          rotate_left
          · (try go_simp); (try with_reducible rfl)
          try simp only [Act.put, List.setIfInBounds_toArray, List.set_cons_zero, List.set_cons_succ]
          refine g_take (i := 20) (d := (some 125)) (v := ?_) rfl rfl (by kernel_rfl) (fun _ _ _ h => h) (by rfl) (fun w' hb' => ?_) ?_
          rotate_left
          · (try go_simp); (try with_reducible rfl)
          try simp only [Act.put, List.setIfInBounds_toArray, List.set_cons_zero, List.set_cons_succ]
          refine g_done (by kernel_rfl) ?_
          go_wp2_with fail
          exact ⟨⟨k + 1, sh, sv, st, sb, sp, sc, sS, x5, y5, z5, u5, o5, l5, x6, y6, z6, u6, o6, l6, by omega, by omega, by push_cast; rfl, HSs, q5b_5, q6b_5, Lib.hid (HX5.out.below K5 (Nat.le_refl _)), Lib.hid (HY5.out.below K5 (Nat.le_refl _)), HMs, chain M5 K5⟩, by simp [intOf]; omega⟩
end Go.Proofs.YtgmblgpfgdfnaaaDoor
