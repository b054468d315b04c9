/- Marks: the law MarksKeep. Written by wip/tools/gen30p.py. -/
import Derived.Test.YtgmblgpfgdfnaaaQMM31
import Derived.Test.YtgmblgpfgdfnaaaQMM38
import Derived.Test.YtgmblgpfgdfnaaaQMM5
import Derived.Test.YtgmblgpfgdfnaaaQMM39
namespace Go.Proofs.Ytgmblgpfgdfnaaa
open Go Go.RowKit
set_option linter.unusedVariables false
set_option linter.unusedSimpArgs false
set_option maxRecDepth 100000

theorem fN_n {n : Int} (h : fN n ≠ 0) : 4 ≤ n ∧ n ≤ 16 := fN_16 h
set_option maxHeartbeats 8000000 in
theorem keeps_walk (n : Int) (v : Value) (l : List Vt) (w : World) (hn : -9223372036854775808 ≤ n ∧ n ≤ 9223372036854775807) (h : RdT w v l) (hbd : ∀ x ∈ l, x.vw ≤ 9223372036854775807) :
    Calls Try.prog 5 #[.int .i64 n, v] w fun e w' => e = .returned (.bool true) ∧ Below w.heap.size w w' := by
  obtain ⟨ao, cap, rfl, hc, hm, hr⟩ := RdK.open h
  have hr : RdT w (.slice ao l.length cap) l := hr
  have HR := Lib.hid hr
  have HN := Lib.hid hn
  have HBD := Lib.hid hbd
  have AW := Lib.hid awake_any
  have FA0 := fun w' => refFaults_any n w'
  obtain ⟨f, hf⟩ : ∃ f, f = fN n := ⟨_, rfl⟩
  rw [← hf] at FA0
  have HF := Lib.hid hf
  have FA := Lib.hid FA0
  have q0 := heap_alloc_new w (.cells #[.int .i64 0, .int .i64 0, .slice none 0 0] 24)
  have B0 := (Below.refl w.heap.size w).alloc (Nat.le_refl _) (.cells #[.int .i64 0, .int .i64 0, .slice none 0 0] 24)
  obtain ⟨W0, hW0⟩ : ∃ W, W = w.alloc (.cells #[.int .i64 0, .int .i64 0, .slice none 0 0] 24) := ⟨_, rfl⟩
  rw [← hW0] at q0 B0
  have HW0 := Lib.hid hW0
  clear h hr hn hbd FA0 hf hW0
  go_enter Try.func5, Try.ntmps5
  go_wp2_with ((with_reducible refine (FA.out _).mono ?_); rintro e w9 ⟨rfl, rfl⟩)
  rw [← HW0.out]
  go_loopw [7] (fun i wr => ∃ (k : Nat) (m : Ms) (ma : Option Addr) (mn mc : Nat), k ≤ l.length ∧ k ≤ 150 ∧ i = .int .i64 (k : Int) ∧ wr.heap[w.heap.size]? = some (.cells #[.int .i64 m.low, .int .i64 m.root, .slice ma mn mc] 24 (0, 0)) ∧ Hid (RdM wr m (.slice ma mn mc)) ∧ Hid (Inv n m) ∧ Hid (m.l.length ≤ 64) ∧ Below w.heap.size w wr) (fun i _ => 150 - (intOf i).toNat)
  case atStart => exact ⟨0, ms0, none, 0, 0, Nat.zero_le _, Nat.zero_le _, rfl, q0, Lib.hid (rdm0 _), Lib.hid (inv0 n), Lib.hid (Nat.zero_le _), B0⟩
  case round =>
    obtain ⟨k, m, ma, mn, mc, hk, hk2, rfl, q5, HMR, HI, HML, BW⟩ := hrel
    by_cases h9 : k < 150
    rotate_left
    · have hk9 : ¬ ((k : Int) < 150) := by omega
      by_cases hlt : k < l.length
      · have hl9 : (k : Int) < (l.length : Int) := by omega
        go_wp2_with ((with_reducible refine (AW.out _).mono ?_); rintro e w9 ⟨rfl, g9⟩)
        go_ret
        exact ⟨rfl, chain BW g9⟩
      · have hl9 : ¬ ((k : Int) < (l.length : Int)) := by omega
        go_wp2_with ((with_reducible refine (AW.out _).mono ?_); rintro e w9 ⟨rfl, g9⟩)
        go_ret
        exact ⟨rfl, chain BW g9⟩
    have hk9 : (k : Int) < 150 := by omega
    by_cases hlt : k < l.length
    rotate_left
    · have hl9 : ¬ ((k : Int) < (l.length : Int)) := by omega
      go_wp2_with ((with_reducible refine (AW.out _).mono ?_); rintro e w9 ⟨rfl, g9⟩)
      go_ret
      exact ⟨rfl, chain BW g9⟩
    have hl9 : (k : Int) < (l.length : Int) := by omega
    have hwr : w.heap.size < wr.heap.size := lt_of_block q5
    obtain ⟨pb, po, hao, hpb, C0, C1, C2⟩ := rdt_cells HR.out k hlt
    subst hao
    have c0 := (BW.cell (p := ⟨pb, po + k * 3, none⟩) hpb).trans C0
    have c1 := (BW.cell (p := ⟨pb, po + k * 3 + 1, none⟩) hpb).trans C1
    have c2 := (BW.cell (p := ⟨pb, po + k * 3 + 2, none⟩) hpb).trans C2
    have hsb := HBD.out l[k] (List.getElem_mem hlt)
    obtain ⟨x, hx⟩ : ∃ x, x = l[k] := ⟨_, rfl⟩
    rw [← hx] at c0 c1 c2 hsb
    obtain ⟨a, b, c⟩ := x
    simp only at c0 c1 c2 hsb
    have hpw : pb < wr.drew.heap.size := Nat.lt_of_lt_of_le hpb BW.size
    have hpb0 : pb < w.heap.size := hpb
    have SAY0 := fun w' (g : Below wr.heap.size wr w') => say_any m (.slice ma mn mc) ⟨a, b, c⟩ n w' (HMR.out.below g (Nat.le_refl _)) (Nat.le_trans HML.out (by decide)) HN.out hsb
    obtain ⟨E, hE⟩ : ∃ E, E = sayE m ⟨a, b, c⟩ n := ⟨_, rfl⟩
    obtain ⟨low, root, ml⟩ := m
    unfold mV vtV at SAY0
    unfold GivesS at SAY0
    simp only at q5 SAY0
    rw [← hE] at SAY0
    have hS : (show World → Prop from fun w' => w'.heap[w.heap.size]? = some (.cells #[.int .i64 low, .int .i64 root, .slice ma mn mc] 24 (0, 0)) ∧ w'.cell? ⟨pb, po + k * 3, none⟩ = some (.int .i64 a) ∧ w'.cell? ⟨pb, po + k * 3 + 1, none⟩ = some (.int .i64 b) ∧ w'.cell? ⟨pb, po + k * 3 + 2, none⟩ = some (.int .i64 c)) wr.drew := ⟨q5, c0, c1, c2⟩
    replace hS := show wr.drew.heap[w.heap.size]? = some (.cells #[.int .i64 low, .int .i64 root, .slice ma mn mc] 24 (0, 0)) ∧ wr.drew.cell? ⟨pb, po + k * 3, none⟩ = some (.int .i64 a) ∧ wr.drew.cell? ⟨pb, po + k * 3 + 1, none⟩ = some (.int .i64 b) ∧ wr.drew.cell? ⟨pb, po + k * 3 + 2, none⟩ = some (.int .i64 c) from hS
    clear C0 C1 C2 c0 c1 c2 hx hpb q5
    by_cases hE0 : E = 0
    · have HE := Lib.hid (show sayE (⟨low, root, ml⟩ : Ms) ⟨a, b, c⟩ n = 0 by rw [← hE]; exact hE0)
      rw [hE0, show ((0 : Nat) : Int) = 0 from rfl] at SAY0
      obtain ⟨R, hR⟩ : ∃ R, R = sayR (⟨low, root, ml⟩ : Ms) ⟨a, b, c⟩ n := ⟨_, rfl⟩
      obtain ⟨sb, hsbb⟩ : ∃ R, R = (sayS (⟨low, root, ml⟩ : Ms) ⟨a, b, c⟩ n).isSome := ⟨_, rfl⟩
      rw [← hR, ← hsbb] at SAY0
      obtain ⟨rl, rr, rls⟩ := R
      unfold mV at SAY0
      simp only at SAY0
      have HRR := Lib.hid hR
      have HSB := Lib.hid hsbb
      have SAY := Lib.hid SAY0
      clear SAY0 hE hE0 hR hsbb
      as_aux_lemma =>
        go_wp2_with fail
        refine gs_start (S := fun w' => w'.heap[w.heap.size]? = some (.cells #[.int .i64 low, .int .i64 root, .slice ma mn mc] 24 (0, 0)) ∧ w'.cell? ⟨pb, po + k * 3, none⟩ = some (.int .i64 a) ∧ w'.cell? ⟨pb, po + k * 3 + 1, none⟩ = some (.int .i64 b) ∧ w'.cell? ⟨pb, po + k * 3 + 2, none⟩ = some (.int .i64 c)) (by kernel_rfl) ?_
        refine gs_take (i := 0) (d := (some 27)) (v := ?_) rfl rfl (by kernel_rfl) (fun _ _ _ h => h) (by rfl) hS (fun w' hb' => ?_) ?_
        rotate_left
        · obtain ⟨d0, d1, d2, df⟩ := block_cells3 hb'.1; (try go_simp); (try with_reducible rfl)
        try simp only [Act.put, List.setIfInBounds_toArray, List.set_cons_zero, List.set_cons_succ]
        refine gs_take (i := 1) (d := (some 28)) (v := ?_) rfl rfl (by kernel_rfl) (fun _ _ _ h => h) (by rfl) hS (fun w' hb' => ?_) ?_
        rotate_left
        · (try go_simp); (try with_reducible rfl)
        try simp only [Act.put, List.setIfInBounds_toArray, List.set_cons_zero, List.set_cons_succ]
        refine gs_take (i := 2) (d := (some 29)) (v := ?_) rfl rfl (by kernel_rfl) (fun _ _ _ h => h) (by rfl) hS (fun w' hb' => ?_) ?_
        rotate_left
        · (try go_simp); (try with_reducible rfl)
        try simp only [Act.put, List.setIfInBounds_toArray, List.set_cons_zero, List.set_cons_succ]
        refine gs_take (i := 3) (d := (some 30)) (v := ?_) rfl rfl (by kernel_rfl) (fun _ _ _ h => h) (by rfl) hS (fun w' hb' => ?_) ?_
        rotate_left
        · (try go_simp); (try with_reducible rfl)
        try simp only [Act.put, List.setIfInBounds_toArray, List.set_cons_zero, List.set_cons_succ]
        refine gs_take (i := 4) (d := (some 31)) (v := ?_) rfl rfl (by kernel_rfl) (fun _ _ _ h => h) (by rfl) hS (fun w' hb' => ?_) ?_
        rotate_left
        · have c0 := hb'.2.1; have c1 := hb'.2.2.1; have c2 := hb'.2.2.2; (try go_simp); (try with_reducible rfl)
        try simp only [Act.put, List.setIfInBounds_toArray, List.set_cons_zero, List.set_cons_succ]
        refine gs_take (i := 5) (d := (some 32)) (v := ?_) rfl rfl (by kernel_rfl) (fun _ _ _ h => h) (by rfl) hS (fun w' hb' => ?_) ?_
        rotate_left
        · (try go_simp); (try with_reducible rfl)
        try simp only [Act.put, List.setIfInBounds_toArray, List.set_cons_zero, List.set_cons_succ]
        refine gs_run2 (i := 6) (k := 11) rfl rfl (by kernel_rfl) (by rfl) (by rfl) (fun K hK => ?_) (fun K hK => ?_)
        · skip
          go_simp
          refine (SAY.out _ (Below.refl wr.heap.size wr).drew).mono ?_
          rintro e w2 ⟨a9, n9, c9, rfl, rd9, g⟩
          have gw := Below.trans (Below.refl wr.heap.size wr).drew (g.mono ((Below.refl wr.heap.size wr).drew).size)
          have hS2 := And.intro ((g.block _ (lt_of_block hS.1)).trans hS.1) (And.intro ((g.cell (p := ⟨pb, po + k * 3, none⟩) hpw).trans hS.2.1) (And.intro ((g.cell (p := ⟨pb, po + k * 3 + 1, none⟩) hpw).trans hS.2.2.1) ((g.cell (p := ⟨pb, po + k * 3 + 2, none⟩) hpw).trans hS.2.2.2)))
          skip
          have hpw2 := Nat.lt_of_lt_of_le hpw g.size
          refine hK _ _ ⟨hS2, ?_⟩
          clear hK K hS hpw g
          have hS := hS2
          have hpw := hpw2
          clear hS2 hpw2
          try simp only [Act.put, List.setIfInBounds_toArray, List.set_cons_zero, List.set_cons_succ]
          refine gs_take (i := 7) (d := (some 26)) (v := ?_) rfl rfl (by kernel_rfl) (fun _ _ _ h => h) (by rfl) hS (fun w' hb' => ?_) ?_
          rotate_left
          · (try go_simp); (try with_reducible rfl)
          try simp only [Act.put, List.setIfInBounds_toArray, List.set_cons_zero, List.set_cons_succ]
          refine gs_take (i := 8) (d := (some 34)) (v := ?_) rfl rfl (by kernel_rfl) (fun _ _ _ h => h) (by rfl) hS (fun w' hb' => ?_) ?_
          rotate_left
          · (try go_simp); (try with_reducible rfl)
          try simp only [Act.put, List.setIfInBounds_toArray, List.set_cons_zero, List.set_cons_succ]
          refine gs_take (i := 9) (d := (some 35)) (v := ?_) rfl rfl (by kernel_rfl) (fun _ _ _ h => h) (by rfl) hS (fun w' hb' => ?_) ?_
          rotate_left
          · (try go_simp); (try with_reducible rfl)
          try simp only [Act.put, List.setIfInBounds_toArray, List.set_cons_zero, List.set_cons_succ]
          refine gs_take (i := 10) (d := (some 36)) (v := ?_) rfl rfl (by kernel_rfl) (fun _ _ _ h => h) (by rfl) hS (fun w' hb' => ?_) ?_
          rotate_left
          · (try go_simp); (try with_reducible rfl)
          try simp only [Act.put, List.setIfInBounds_toArray, List.set_cons_zero, List.set_cons_succ]
          refine gs_run (i := 11) rfl (by kernel_rfl) (by rfl) (fun K hK => ?_)
          go_simp
          have gz := ((Below.refl w2.heap.size w2).alloc (Nat.le_refl _) (.cells #[.int .i64 0, .int .i64 0, .slice none 0 0] 24))
          have hS2 := And.intro ((gz.block _ (lt_of_block hS.1)).trans hS.1) (And.intro ((gz.cell (p := ⟨pb, po + k * 3, none⟩) hpw).trans hS.2.1) (And.intro ((gz.cell (p := ⟨pb, po + k * 3 + 1, none⟩) hpw).trans hS.2.2.1) ((gz.cell (p := ⟨pb, po + k * 3 + 2, none⟩) hpw).trans hS.2.2.2)))
          refine hK _ _ ⟨hS2, ?_⟩
          clear hK K
          have hSA := hS
          have hpwA := hpw
          have hpw2 := Nat.lt_of_lt_of_le hpw gz.size
          clear hS hpw
          have hS := hS2
          have hpw := hpw2
          clear hS2 gz hpw2
          try simp only [Act.put, List.setIfInBounds_toArray, List.set_cons_zero, List.set_cons_succ]
          refine gs_run (i := 12) rfl (by kernel_rfl) (by rfl) (fun K hK => ?_)
          go_simp
          have gz2 := ((Below.refl w2.heap.size w2).alloc (Nat.le_refl _) (.cells #[.int .i64 rl, .int .i64 rr, .slice a9 n9 c9] 24))
          have hS2 := And.intro ((gz2.block _ (lt_of_block hSA.1)).trans hSA.1) (And.intro ((gz2.cell (p := ⟨pb, po + k * 3, none⟩) hpwA).trans hSA.2.1) (And.intro ((gz2.cell (p := ⟨pb, po + k * 3 + 1, none⟩) hpwA).trans hSA.2.2.1) ((gz2.cell (p := ⟨pb, po + k * 3 + 2, none⟩) hpwA).trans hSA.2.2.2)))
          refine hK _ _ ⟨hS2, ?_⟩
          clear hK K hS
          have hS := hS2
          try simp only [Act.put, List.setIfInBounds_toArray, List.set_cons_zero, List.set_cons_succ]
          refine gs_take (i := 13) (d := (some 9)) (v := ?_) rfl rfl (by kernel_rfl) (fun _ _ _ h => h) (by rfl) hS (fun w' hb' => ?_) ?_
          rotate_left
          · (try go_simp); (try with_reducible rfl)
          try simp only [Act.put, List.setIfInBounds_toArray, List.set_cons_zero, List.set_cons_succ]
          refine gs_take (i := 14) (d := (some 10)) (v := ?_) rfl rfl (by kernel_rfl) (fun _ _ _ h => h) (by rfl) hS (fun w' hb' => ?_) ?_
          rotate_left
          · (try go_simp); (try with_reducible rfl)
          try simp only [Act.put, List.setIfInBounds_toArray, List.set_cons_zero, List.set_cons_succ]
          refine gs_done (by kernel_rfl) ?_
          obtain ⟨W9, hW9⟩ : ∃ W, W = w2.alloc (.cells #[.int .i64 rl, .int .i64 rr, .slice a9 n9 c9] 24) := ⟨_, rfl⟩
          obtain ⟨B8, hB8⟩ : ∃ B, B = w2.heap.size := ⟨_, rfl⟩
          rw [← hW9]
          rw [← hW9] at hS2 gz2
          have q8 : W9.heap[B8]? = some (.cells #[.int .i64 rl, .int .i64 rr, .slice a9 n9 c9] 24 (0, 0)) := by rw [hW9, hB8]; exact heap_alloc_new _ _
          have r9 : RdM W9 ⟨rl, rr, rls⟩ (.slice a9 n9 c9) := rd9.below gz2 (Nat.le_refl _)
          have bB8 : wr.heap.size ≤ B8 := by rw [hB8]; exact gw.size
          have B9 : Below wr.heap.size wr W9 := Below.trans gw (gz2.mono gw.size)
          rw [← hB8]
          clear hW9 hB8 rd9 gw gz2 hSA hpwA
          have hpx9 : pb < W9.heap.size := Nat.lt_of_lt_of_le hpb0 (Nat.le_trans BW.size B9.size)
          have HMW := Lib.hid (HMR.out.below B9 (Nat.le_refl _))
          have HRES := Lib.hid r9
          have Q5 := Lib.hid hS2.1
          have Q8 := Lib.hid q8
          have XA := Lib.hid hS2.2.1
          have XB := Lib.hid hS2.2.2.1
          have XC := Lib.hid hS2.2.2.2
          have hmn : mn = ml.length := by
            obtain ⟨ao', cap', e9, _⟩ := HMR.out.l
            injection e9
          subst hmn
          have hmn9 : n9 = rls.length := by
            obtain ⟨ao', cap', e9, _⟩ := HRES.out.l
            injection e9
          have hok := sayE_yes HE.out
          have hokn := sayOk_iff.1 hok.1
          have hst := say_stb HI.out HE.out
          have hlow := say_low HE.out
          have hmay := say_may HE.out
          have hinv := say_inv HI.out HE.out
          have hcn := same_cnt (key_free hok.2.2)
          rw [← HRR.out] at hlow hmay hinv
          have hn16 := fN_n hokn.1
          have hlen := inv_len (show 0 ≤ n by omega) hmay hinv.fr
          have hfb : 1 ≤ f ∧ f ≤ 5 := by have h1 := fN_cases n; have h2 := hokn.1; rw [← HF.out] at h1 h2; omega
          rw [← HF.out] at hst
          (try simp only at hst)
          (try simp only at hlow)
          (try simp only at hlen)
          (try simp only at hcn)
          have HI2 := Lib.hid hinv
          have HL2 := Lib.hid (show rls.length ≤ 64 by omega)
          have hsbl : sb = decide (low < rl) := by rw [HSB.out]; exact hlow.2
          have hsbs : sb = decide (2 * f + 1 ≤ (sameN ml ⟨a, b, c⟩ : Int) + 1) := by
            rw [HSB.out, hst, hcn]
            by_cases hh : 2 * f + 1 ≤ (cntM ml b c : Int) + 1
            · rw [if_pos hh, decide_eq_true hh]; rfl
            · rw [if_neg hh, decide_eq_false hh]; rfl
          have HSBL := Lib.hid hsbl
          have HSBS := Lib.hid hsbs
          have HLOW := Lib.hid (show low ≤ rl from hlow.1)
          have HLEN := Lib.hid (show (n9 : Int) ≤ 4 * n by rw [hmn9]; exact hlen)
          have HFB := Lib.hid hfb
          have HN16 := Lib.hid hn16
          have MAY0 := fun w' (g : Below W9.heap.size W9 w') => may_any ⟨rl, rr, rls⟩ (.slice a9 n9 c9) w' (HRES.out.below g (Nat.le_refl _))
          rw [hmay] at MAY0
          unfold mV at MAY0
          (try simp only at MAY0)
          have MAY := Lib.hid MAY0
          clear hst hlow hmay hinv hcn hok hokn hsbl hsbs hfb hn16 hlen hmn9 MAY0 hS hS2 q8 r9 hpw SAY
          have p5 := Q5.out
          obtain ⟨d0, d1, d2, df⟩ := block_cells3 p5
          go_wp2_with fail
          clear d0 d1 d2 df p5
          go_loopw [11, 12] (fun s j wr => ∃ q : Nat, q ≤ ml.length ∧ j = .int .i64 (q : Int) ∧ s = .int .i64 ((sameN (ml.take q) ⟨a, b, c⟩ : Nat) : Int) ∧ Below W9.heap.size W9 wr) (fun _ j _ => ml.length - (intOf j).toNat)
          case atStart => exact ⟨0, Nat.zero_le _, rfl, rfl, Below.refl _ _⟩
          case round =>
            obtain ⟨q, hq, rfl, rfl, BQ⟩ := hrel
            have p5 := (BQ.block _ (lt_of_block Q5.out)).trans Q5.out
            obtain ⟨d0, d1, d2, df⟩ := block_cells3 p5
            have hml64 := HML.out
            (try simp only at hml64)
            by_cases hlq : q < ml.length
            · have hql : (q : Int) < (ml.length : Int) := by omega
              obtain ⟨qb, qo, hqo, hqb, Y0, Y1, Y2⟩ := rdt_cells HMW.out.l q hlq
              subst hqo
              have HUP0 := same_up (x := ⟨a, b, c⟩) hlq
              have hsl := same_le (ml.take q) ⟨a, b, c⟩
              rw [List.length_take] at hsl
              obtain ⟨y, hy⟩ : ∃ y, y = ml[q] := ⟨_, rfl⟩
              simp only [← hy] at Y0 Y1 Y2 HUP0
              obtain ⟨y1v, y2v, y3v⟩ := y
              unfold sameF at HUP0
              simp only at Y0 Y1 Y2 HUP0
              have HUP := Lib.hid HUP0
              replace Y0 := (BQ.cell (p := ⟨qb, qo + q * 3, none⟩) hqb).trans Y0
              replace Y1 := (BQ.cell (p := ⟨qb, qo + q * 3 + 1, none⟩) hqb).trans Y1
              replace Y2 := (BQ.cell (p := ⟨qb, qo + q * 3 + 2, none⟩) hqb).trans Y2
              have X0 := (BQ.cell (p := ⟨pb, po + k * 3, none⟩) hpx9).trans XA.out
              have X1 := (BQ.cell (p := ⟨pb, po + k * 3 + 1, none⟩) hpx9).trans XB.out
              have X2 := (BQ.cell (p := ⟨pb, po + k * 3 + 2, none⟩) hpx9).trans XC.out
              have hqx := Nat.lt_of_lt_of_le hqb BQ.size
              have hpx := Nat.lt_of_lt_of_le hpx9 BQ.size
              clear hy HUP0
              by_cases e1 : y2v = b
              · have g1 : (y2v == b) = true := by simpa using e1
                by_cases e2 : y3v = c
                · have g2 : (y3v == c) = true := by simpa using e2
                  by_cases e3 : y1v = a
                  · have g3 : (y1v == a) = true := by simpa using e3
                    have g3' : (y1v != a) = false := by simpa using e3
                    have HU := Lib.hid (show sameN (ml.take (q + 1)) ⟨a, b, c⟩ = sameN (ml.take q) ⟨a, b, c⟩ by rw [HUP.out, decide_eq_true e1, decide_eq_true e2, decide_eq_false (not_not_intro e3)]; rfl)
                    clear e1 e2 e3
                    go_wp2_with fail
                    clear d0 d1 d2 df
                    replace p5 := show wr.drew.heap[w.heap.size]? = _ from p5
                    replace X0 := show wr.drew.cell? _ = _ from X0
                    replace X1 := show wr.drew.cell? _ = _ from X1
                    replace X2 := show wr.drew.cell? _ = _ from X2
                    replace Y0 := show wr.drew.cell? _ = _ from Y0
                    replace Y1 := show wr.drew.cell? _ = _ from Y1
                    replace Y2 := show wr.drew.cell? _ = _ from Y2
                    replace hpx := show pb < wr.drew.heap.size from hpx
                    replace hqx := show qb < wr.drew.heap.size from hqx
                    refine g_start (by kernel_rfl) ?_
                    refine g_take (i := 0) (d := (some 46)) (v := ?_) rfl rfl (by kernel_rfl) (fun _ _ _ h => h) (by rfl) (fun w' hb' => ?_) ?_
                    rotate_left
                    · (try go_simp); (try with_reducible rfl)
                    try simp only [Act.put, List.setIfInBounds_toArray, List.set_cons_zero, List.set_cons_succ]
                    refine g_take (i := 1) (d := (some 47)) (v := ?_) rfl rfl (by kernel_rfl) (fun _ _ _ h => h) (by rfl) (fun w' hb' => ?_) ?_
                    rotate_left
                    · obtain ⟨d0, d1, d2, df⟩ := block_cells3 ((hb'.block _ (lt_of_block p5)).trans p5); (try go_simp); (try with_reducible rfl)
                    try simp only [Act.put, List.setIfInBounds_toArray, List.set_cons_zero, List.set_cons_succ]
                    refine g_take (i := 2) (d := (some 48)) (v := ?_) rfl rfl (by kernel_rfl) (fun _ _ _ h => h) (by rfl) (fun w' hb' => ?_) ?_
                    rotate_left
                    · (try go_simp); (try with_reducible rfl)
                    try simp only [Act.put, List.setIfInBounds_toArray, List.set_cons_zero, List.set_cons_succ]
                    refine g_take (i := 3) (d := (some 49)) (v := ?_) rfl rfl (by kernel_rfl) (fun _ _ _ h => h) (by rfl) (fun w' hb' => ?_) ?_
                    rotate_left
                    · (try go_simp); (try with_reducible rfl)
                    try simp only [Act.put, List.setIfInBounds_toArray, List.set_cons_zero, List.set_cons_succ]
                    refine g_take (i := 4) (d := (some 50)) (v := ?_) rfl rfl (by kernel_rfl) (fun _ _ _ h => h) (by rfl) (fun w' hb' => ?_) ?_
                    rotate_left
                    · (try go_simp); (try with_reducible rfl)
                    try simp only [Act.put, List.setIfInBounds_toArray, List.set_cons_zero, List.set_cons_succ]
                    refine g_take (i := 5) (d := (some 51)) (v := ?_) rfl rfl (by kernel_rfl) (fun _ _ _ h => h) (by rfl) (fun w' hb' => ?_) ?_
                    rotate_left
                    · have y1 := (hb'.cell (p := ⟨qb, qo + q * 3 + 1, none⟩) hqx).trans Y1; (try go_simp); (try with_reducible rfl)
                    try simp only [Act.put, List.setIfInBounds_toArray, List.set_cons_zero, List.set_cons_succ]
                    refine g_take (i := 6) (d := (some 52)) (v := ?_) rfl rfl (by kernel_rfl) (fun _ _ _ h => h) (by rfl) (fun w' hb' => ?_) ?_
                    rotate_left
                    · (try go_simp); (try with_reducible rfl)
                    try simp only [Act.put, List.setIfInBounds_toArray, List.set_cons_zero, List.set_cons_succ]
                    refine g_take (i := 7) (d := (some 53)) (v := ?_) rfl rfl (by kernel_rfl) (fun _ _ _ h => h) (by rfl) (fun w' hb' => ?_) ?_
                    rotate_left
                    · (try go_simp); (try with_reducible rfl)
                    try simp only [Act.put, List.setIfInBounds_toArray, List.set_cons_zero, List.set_cons_succ]
                    refine g_take (i := 8) (d := (some 54)) (v := ?_) rfl rfl (by kernel_rfl) (fun _ _ _ h => h) (by rfl) (fun w' hb' => ?_) ?_
                    rotate_left
                    · (try go_simp); (try with_reducible rfl)
                    try simp only [Act.put, List.setIfInBounds_toArray, List.set_cons_zero, List.set_cons_succ]
                    refine g_take (i := 9) (d := (some 55)) (v := ?_) rfl rfl (by kernel_rfl) (fun _ _ _ h => h) (by rfl) (fun w' hb' => ?_) ?_
                    rotate_left
                    · (try go_simp); (try with_reducible rfl)
                    try simp only [Act.put, List.setIfInBounds_toArray, List.set_cons_zero, List.set_cons_succ]
                    refine g_take (i := 10) (d := (some 56)) (v := ?_) rfl rfl (by kernel_rfl) (fun _ _ _ h => h) (by rfl) (fun w' hb' => ?_) ?_
                    rotate_left
                    · have x1 := (hb'.cell (p := ⟨pb, po + k * 3 + 1, none⟩) hpx).trans X1; (try go_simp); (try with_reducible rfl)
                    try simp only [Act.put, List.setIfInBounds_toArray, List.set_cons_zero, List.set_cons_succ]
                    refine g_take (i := 11) (d := (some 57)) (v := ?_) rfl rfl (by kernel_rfl) (fun _ _ _ h => h) (by rfl) (fun w' hb' => ?_) ?_
                    rotate_left
                    · (try go_simp); (try with_reducible rfl)
                    try simp only [Act.put, List.setIfInBounds_toArray, List.set_cons_zero, List.set_cons_succ]
                    refine g_take (i := 12) (d := (some 58)) (v := ?_) rfl rfl (by kernel_rfl) (fun _ _ _ h => h) (by rfl) (fun w' hb' => ?_) ?_
                    rotate_left
                    · (try go_simp); (try with_reducible rfl)
                    try simp only [Act.put, List.setIfInBounds_toArray, List.set_cons_zero, List.set_cons_succ]
                    refine g_take (i := 13) (d := (some 59)) (v := ?_) rfl rfl (by kernel_rfl) (fun _ _ _ h => h) (by rfl) (fun w' hb' => ?_) ?_
                    rotate_left
                    · (try go_simp); (try with_reducible rfl)
                    try simp only [Act.put, List.setIfInBounds_toArray, List.set_cons_zero, List.set_cons_succ]
                    refine g_take (i := 14) (d := (some 60)) (v := ?_) rfl rfl (by kernel_rfl) (fun _ _ _ h => h) (by rfl) (fun w' hb' => ?_) ?_
                    rotate_left
                    · obtain ⟨d0, d1, d2, df⟩ := block_cells3 ((hb'.block _ (lt_of_block p5)).trans p5); (try go_simp); (try with_reducible rfl)
                    try simp only [Act.put, List.setIfInBounds_toArray, List.set_cons_zero, List.set_cons_succ]
                    refine g_take (i := 15) (d := (some 61)) (v := ?_) rfl rfl (by kernel_rfl) (fun _ _ _ h => h) (by rfl) (fun w' hb' => ?_) ?_
                    rotate_left
                    · (try go_simp); (try with_reducible rfl)
                    try simp only [Act.put, List.setIfInBounds_toArray, List.set_cons_zero, List.set_cons_succ]
                    refine g_take (i := 16) (d := (some 62)) (v := ?_) rfl rfl (by kernel_rfl) (fun _ _ _ h => h) (by rfl) (fun w' hb' => ?_) ?_
                    rotate_left
                    · (try go_simp); (try with_reducible rfl)
                    try simp only [Act.put, List.setIfInBounds_toArray, List.set_cons_zero, List.set_cons_succ]
                    refine g_take (i := 17) (d := (some 63)) (v := ?_) rfl rfl (by kernel_rfl) (fun _ _ _ h => h) (by rfl) (fun w' hb' => ?_) ?_
                    rotate_left
                    · (try go_simp); (try with_reducible rfl)
                    try simp only [Act.put, List.setIfInBounds_toArray, List.set_cons_zero, List.set_cons_succ]
                    refine g_take (i := 18) (d := (some 64)) (v := ?_) rfl rfl (by kernel_rfl) (fun _ _ _ h => h) (by rfl) (fun w' hb' => ?_) ?_
                    rotate_left
                    · have y2 := (hb'.cell (p := ⟨qb, qo + q * 3 + 2, none⟩) hqx).trans Y2; (try go_simp); (try with_reducible rfl)
                    try simp only [Act.put, List.setIfInBounds_toArray, List.set_cons_zero, List.set_cons_succ]
                    refine g_take (i := 19) (d := (some 65)) (v := ?_) rfl rfl (by kernel_rfl) (fun _ _ _ h => h) (by rfl) (fun w' hb' => ?_) ?_
                    rotate_left
                    · (try go_simp); (try with_reducible rfl)
                    try simp only [Act.put, List.setIfInBounds_toArray, List.set_cons_zero, List.set_cons_succ]
                    refine g_take (i := 20) (d := (some 66)) (v := ?_) rfl rfl (by kernel_rfl) (fun _ _ _ h => h) (by rfl) (fun w' hb' => ?_) ?_
                    rotate_left
                    · (try go_simp); (try with_reducible rfl)
                    try simp only [Act.put, List.setIfInBounds_toArray, List.set_cons_zero, List.set_cons_succ]
                    refine g_take (i := 21) (d := (some 67)) (v := ?_) rfl rfl (by kernel_rfl) (fun _ _ _ h => h) (by rfl) (fun w' hb' => ?_) ?_
                    rotate_left
                    · (try go_simp); (try with_reducible rfl)
                    try simp only [Act.put, List.setIfInBounds_toArray, List.set_cons_zero, List.set_cons_succ]
                    refine g_take (i := 22) (d := (some 68)) (v := ?_) rfl rfl (by kernel_rfl) (fun _ _ _ h => h) (by rfl) (fun w' hb' => ?_) ?_
                    rotate_left
                    · (try go_simp); (try with_reducible rfl)
                    try simp only [Act.put, List.setIfInBounds_toArray, List.set_cons_zero, List.set_cons_succ]
                    refine g_take (i := 23) (d := (some 69)) (v := ?_) rfl rfl (by kernel_rfl) (fun _ _ _ h => h) (by rfl) (fun w' hb' => ?_) ?_
                    rotate_left
                    · have x2 := (hb'.cell (p := ⟨pb, po + k * 3 + 2, none⟩) hpx).trans X2; (try go_simp); (try with_reducible rfl)
                    try simp only [Act.put, List.setIfInBounds_toArray, List.set_cons_zero, List.set_cons_succ]
                    refine g_take (i := 24) (d := (some 70)) (v := ?_) rfl rfl (by kernel_rfl) (fun _ _ _ h => h) (by rfl) (fun w' hb' => ?_) ?_
                    rotate_left
                    · (try go_simp); (try with_reducible rfl)
                    try simp only [Act.put, List.setIfInBounds_toArray, List.set_cons_zero, List.set_cons_succ]
                    refine g_take (i := 25) (d := (some 71)) (v := ?_) rfl rfl (by kernel_rfl) (fun _ _ _ h => h) (by rfl) (fun w' hb' => ?_) ?_
                    rotate_left
                    · (try go_simp); (try with_reducible rfl)
                    try simp only [Act.put, List.setIfInBounds_toArray, List.set_cons_zero, List.set_cons_succ]
                    refine g_take (i := 26) (d := (some 72)) (v := ?_) rfl rfl (by kernel_rfl) (fun _ _ _ h => h) (by rfl) (fun w' hb' => ?_) ?_
                    rotate_left
                    · (try go_simp); (try with_reducible rfl)
                    try simp only [Act.put, List.setIfInBounds_toArray, List.set_cons_zero, List.set_cons_succ]
                    refine g_take (i := 27) (d := (some 73)) (v := ?_) rfl rfl (by kernel_rfl) (fun _ _ _ h => h) (by rfl) (fun w' hb' => ?_) ?_
                    rotate_left
                    · (try go_simp); (try with_reducible rfl)
                    try simp only [Act.put, List.setIfInBounds_toArray, List.set_cons_zero, List.set_cons_succ]
                    refine g_take (i := 28) (d := (some 74)) (v := ?_) rfl rfl (by kernel_rfl) (fun _ _ _ h => h) (by rfl) (fun w' hb' => ?_) ?_
                    rotate_left
                    · obtain ⟨d0, d1, d2, df⟩ := block_cells3 ((hb'.block _ (lt_of_block p5)).trans p5); (try go_simp); (try with_reducible rfl)
                    try simp only [Act.put, List.setIfInBounds_toArray, List.set_cons_zero, List.set_cons_succ]
                    refine g_take (i := 29) (d := (some 75)) (v := ?_) rfl rfl (by kernel_rfl) (fun _ _ _ h => h) (by rfl) (fun w' hb' => ?_) ?_
                    rotate_left
                    · (try go_simp); (try with_reducible rfl)
                    try simp only [Act.put, List.setIfInBounds_toArray, List.set_cons_zero, List.set_cons_succ]
                    refine g_take (i := 30) (d := (some 76)) (v := ?_) rfl rfl (by kernel_rfl) (fun _ _ _ h => h) (by rfl) (fun w' hb' => ?_) ?_
                    rotate_left
                    · (try go_simp); (try with_reducible rfl)
                    try simp only [Act.put, List.setIfInBounds_toArray, List.set_cons_zero, List.set_cons_succ]
                    refine g_take (i := 31) (d := (some 77)) (v := ?_) rfl rfl (by kernel_rfl) (fun _ _ _ h => h) (by rfl) (fun w' hb' => ?_) ?_
                    rotate_left
                    · (try go_simp); (try with_reducible rfl)
                    try simp only [Act.put, List.setIfInBounds_toArray, List.set_cons_zero, List.set_cons_succ]
                    refine g_take (i := 32) (d := (some 78)) (v := ?_) rfl rfl (by kernel_rfl) (fun _ _ _ h => h) (by rfl) (fun w' hb' => ?_) ?_
                    rotate_left
                    · have y0 := (hb'.cell (p := ⟨qb, qo + q * 3, none⟩) hqx).trans Y0; (try go_simp); (try with_reducible rfl)
                    try simp only [Act.put, List.setIfInBounds_toArray, List.set_cons_zero, List.set_cons_succ]
                    refine g_take (i := 33) (d := (some 79)) (v := ?_) rfl rfl (by kernel_rfl) (fun _ _ _ h => h) (by rfl) (fun w' hb' => ?_) ?_
                    rotate_left
                    · (try go_simp); (try with_reducible rfl)
                    try simp only [Act.put, List.setIfInBounds_toArray, List.set_cons_zero, List.set_cons_succ]
                    refine g_take (i := 34) (d := (some 80)) (v := ?_) rfl rfl (by kernel_rfl) (fun _ _ _ h => h) (by rfl) (fun w' hb' => ?_) ?_
                    rotate_left
                    · (try go_simp); (try with_reducible rfl)
                    try simp only [Act.put, List.setIfInBounds_toArray, List.set_cons_zero, List.set_cons_succ]
                    refine g_take (i := 35) (d := (some 81)) (v := ?_) rfl rfl (by kernel_rfl) (fun _ _ _ h => h) (by rfl) (fun w' hb' => ?_) ?_
                    rotate_left
                    · (try go_simp); (try with_reducible rfl)
                    try simp only [Act.put, List.setIfInBounds_toArray, List.set_cons_zero, List.set_cons_succ]
                    refine g_take (i := 36) (d := (some 82)) (v := ?_) rfl rfl (by kernel_rfl) (fun _ _ _ h => h) (by rfl) (fun w' hb' => ?_) ?_
                    rotate_left
                    · (try go_simp); (try with_reducible rfl)
                    try simp only [Act.put, List.setIfInBounds_toArray, List.set_cons_zero, List.set_cons_succ]
                    refine g_take (i := 37) (d := (some 83)) (v := ?_) rfl rfl (by kernel_rfl) (fun _ _ _ h => h) (by rfl) (fun w' hb' => ?_) ?_
                    rotate_left
                    · have x0 := (hb'.cell (p := ⟨pb, po + k * 3, none⟩) hpx).trans X0; (try go_simp); (try with_reducible rfl)
                    try simp only [Act.put, List.setIfInBounds_toArray, List.set_cons_zero, List.set_cons_succ]
                    refine g_take (i := 38) (d := (some 84)) (v := ?_) rfl rfl (by kernel_rfl) (fun _ _ _ h => h) (by rfl) (fun w' hb' => ?_) ?_
                    rotate_left
                    · (try go_simp); (try with_reducible rfl)
                    try simp only [Act.put, List.setIfInBounds_toArray, List.set_cons_zero, List.set_cons_succ]
                    refine g_take (i := 39) (d := (some 85)) (v := ?_) rfl rfl (by kernel_rfl) (fun _ _ _ h => h) (by rfl) (fun w' hb' => ?_) ?_
                    rotate_left
                    · (try go_simp); (try with_reducible rfl)
                    try simp only [Act.put, List.setIfInBounds_toArray, List.set_cons_zero, List.set_cons_succ]
                    refine g_done (by kernel_rfl) ?_
                    go_wp2_with fail
                    exact ⟨⟨q + 1, by omega, by push_cast; rfl, by rw [HU.out], BQ.drew⟩, by simp [intOf]; omega⟩
                  · have g3 : (y1v == a) = false := by simpa using e3
                    have g3' : (y1v != a) = true := by simpa using e3
                    have HU := Lib.hid (show sameN (ml.take (q + 1)) ⟨a, b, c⟩ = sameN (ml.take q) ⟨a, b, c⟩ + 1 by rw [HUP.out, decide_eq_true e1, decide_eq_true e2, decide_eq_true e3]; rfl)
                    clear e1 e2 e3
                    go_wp2_with fail
                    clear d0 d1 d2 df
                    replace p5 := show wr.drew.heap[w.heap.size]? = _ from p5
                    replace X0 := show wr.drew.cell? _ = _ from X0
                    replace X1 := show wr.drew.cell? _ = _ from X1
                    replace X2 := show wr.drew.cell? _ = _ from X2
                    replace Y0 := show wr.drew.cell? _ = _ from Y0
                    replace Y1 := show wr.drew.cell? _ = _ from Y1
                    replace Y2 := show wr.drew.cell? _ = _ from Y2
                    replace hpx := show pb < wr.drew.heap.size from hpx
                    replace hqx := show qb < wr.drew.heap.size from hqx
                    refine g_start (by kernel_rfl) ?_
                    refine g_take (i := 0) (d := (some 46)) (v := ?_) rfl rfl (by kernel_rfl) (fun _ _ _ h => h) (by rfl) (fun w' hb' => ?_) ?_
                    rotate_left
                    · (try go_simp); (try with_reducible rfl)
                    try simp only [Act.put, List.setIfInBounds_toArray, List.set_cons_zero, List.set_cons_succ]
                    refine g_take (i := 1) (d := (some 47)) (v := ?_) rfl rfl (by kernel_rfl) (fun _ _ _ h => h) (by rfl) (fun w' hb' => ?_) ?_
                    rotate_left
                    · obtain ⟨d0, d1, d2, df⟩ := block_cells3 ((hb'.block _ (lt_of_block p5)).trans p5); (try go_simp); (try with_reducible rfl)
                    try simp only [Act.put, List.setIfInBounds_toArray, List.set_cons_zero, List.set_cons_succ]
                    refine g_take (i := 2) (d := (some 48)) (v := ?_) rfl rfl (by kernel_rfl) (fun _ _ _ h => h) (by rfl) (fun w' hb' => ?_) ?_
                    rotate_left
                    · (try go_simp); (try with_reducible rfl)
                    try simp only [Act.put, List.setIfInBounds_toArray, List.set_cons_zero, List.set_cons_succ]
                    refine g_take (i := 3) (d := (some 49)) (v := ?_) rfl rfl (by kernel_rfl) (fun _ _ _ h => h) (by rfl) (fun w' hb' => ?_) ?_
                    rotate_left
                    · (try go_simp); (try with_reducible rfl)
                    try simp only [Act.put, List.setIfInBounds_toArray, List.set_cons_zero, List.set_cons_succ]
                    refine g_take (i := 4) (d := (some 50)) (v := ?_) rfl rfl (by kernel_rfl) (fun _ _ _ h => h) (by rfl) (fun w' hb' => ?_) ?_
                    rotate_left
                    · (try go_simp); (try with_reducible rfl)
                    try simp only [Act.put, List.setIfInBounds_toArray, List.set_cons_zero, List.set_cons_succ]
                    refine g_take (i := 5) (d := (some 51)) (v := ?_) rfl rfl (by kernel_rfl) (fun _ _ _ h => h) (by rfl) (fun w' hb' => ?_) ?_
                    rotate_left
                    · have y1 := (hb'.cell (p := ⟨qb, qo + q * 3 + 1, none⟩) hqx).trans Y1; (try go_simp); (try with_reducible rfl)
                    try simp only [Act.put, List.setIfInBounds_toArray, List.set_cons_zero, List.set_cons_succ]
                    refine g_take (i := 6) (d := (some 52)) (v := ?_) rfl rfl (by kernel_rfl) (fun _ _ _ h => h) (by rfl) (fun w' hb' => ?_) ?_
                    rotate_left
                    · (try go_simp); (try with_reducible rfl)
                    try simp only [Act.put, List.setIfInBounds_toArray, List.set_cons_zero, List.set_cons_succ]
                    refine g_take (i := 7) (d := (some 53)) (v := ?_) rfl rfl (by kernel_rfl) (fun _ _ _ h => h) (by rfl) (fun w' hb' => ?_) ?_
                    rotate_left
                    · (try go_simp); (try with_reducible rfl)
                    try simp only [Act.put, List.setIfInBounds_toArray, List.set_cons_zero, List.set_cons_succ]
                    refine g_take (i := 8) (d := (some 54)) (v := ?_) rfl rfl (by kernel_rfl) (fun _ _ _ h => h) (by rfl) (fun w' hb' => ?_) ?_
                    rotate_left
                    · (try go_simp); (try with_reducible rfl)
                    try simp only [Act.put, List.setIfInBounds_toArray, List.set_cons_zero, List.set_cons_succ]
                    refine g_take (i := 9) (d := (some 55)) (v := ?_) rfl rfl (by kernel_rfl) (fun _ _ _ h => h) (by rfl) (fun w' hb' => ?_) ?_
                    rotate_left
                    · (try go_simp); (try with_reducible rfl)
                    try simp only [Act.put, List.setIfInBounds_toArray, List.set_cons_zero, List.set_cons_succ]
                    refine g_take (i := 10) (d := (some 56)) (v := ?_) rfl rfl (by kernel_rfl) (fun _ _ _ h => h) (by rfl) (fun w' hb' => ?_) ?_
                    rotate_left
                    · have x1 := (hb'.cell (p := ⟨pb, po + k * 3 + 1, none⟩) hpx).trans X1; (try go_simp); (try with_reducible rfl)
                    try simp only [Act.put, List.setIfInBounds_toArray, List.set_cons_zero, List.set_cons_succ]
                    refine g_take (i := 11) (d := (some 57)) (v := ?_) rfl rfl (by kernel_rfl) (fun _ _ _ h => h) (by rfl) (fun w' hb' => ?_) ?_
                    rotate_left
                    · (try go_simp); (try with_reducible rfl)
                    try simp only [Act.put, List.setIfInBounds_toArray, List.set_cons_zero, List.set_cons_succ]
                    refine g_take (i := 12) (d := (some 58)) (v := ?_) rfl rfl (by kernel_rfl) (fun _ _ _ h => h) (by rfl) (fun w' hb' => ?_) ?_
                    rotate_left
                    · (try go_simp); (try with_reducible rfl)
                    try simp only [Act.put, List.setIfInBounds_toArray, List.set_cons_zero, List.set_cons_succ]
                    refine g_take (i := 13) (d := (some 59)) (v := ?_) rfl rfl (by kernel_rfl) (fun _ _ _ h => h) (by rfl) (fun w' hb' => ?_) ?_
                    rotate_left
                    · (try go_simp); (try with_reducible rfl)
                    try simp only [Act.put, List.setIfInBounds_toArray, List.set_cons_zero, List.set_cons_succ]
                    refine g_take (i := 14) (d := (some 60)) (v := ?_) rfl rfl (by kernel_rfl) (fun _ _ _ h => h) (by rfl) (fun w' hb' => ?_) ?_
                    rotate_left
                    · obtain ⟨d0, d1, d2, df⟩ := block_cells3 ((hb'.block _ (lt_of_block p5)).trans p5); (try go_simp); (try with_reducible rfl)
                    try simp only [Act.put, List.setIfInBounds_toArray, List.set_cons_zero, List.set_cons_succ]
                    refine g_take (i := 15) (d := (some 61)) (v := ?_) rfl rfl (by kernel_rfl) (fun _ _ _ h => h) (by rfl) (fun w' hb' => ?_) ?_
                    rotate_left
                    · (try go_simp); (try with_reducible rfl)
                    try simp only [Act.put, List.setIfInBounds_toArray, List.set_cons_zero, List.set_cons_succ]
                    refine g_take (i := 16) (d := (some 62)) (v := ?_) rfl rfl (by kernel_rfl) (fun _ _ _ h => h) (by rfl) (fun w' hb' => ?_) ?_
                    rotate_left
                    · (try go_simp); (try with_reducible rfl)
                    try simp only [Act.put, List.setIfInBounds_toArray, List.set_cons_zero, List.set_cons_succ]
                    refine g_take (i := 17) (d := (some 63)) (v := ?_) rfl rfl (by kernel_rfl) (fun _ _ _ h => h) (by rfl) (fun w' hb' => ?_) ?_
                    rotate_left
                    · (try go_simp); (try with_reducible rfl)
                    try simp only [Act.put, List.setIfInBounds_toArray, List.set_cons_zero, List.set_cons_succ]
                    refine g_take (i := 18) (d := (some 64)) (v := ?_) rfl rfl (by kernel_rfl) (fun _ _ _ h => h) (by rfl) (fun w' hb' => ?_) ?_
                    rotate_left
                    · have y2 := (hb'.cell (p := ⟨qb, qo + q * 3 + 2, none⟩) hqx).trans Y2; (try go_simp); (try with_reducible rfl)
                    try simp only [Act.put, List.setIfInBounds_toArray, List.set_cons_zero, List.set_cons_succ]
                    refine g_take (i := 19) (d := (some 65)) (v := ?_) rfl rfl (by kernel_rfl) (fun _ _ _ h => h) (by rfl) (fun w' hb' => ?_) ?_
                    rotate_left
                    · (try go_simp); (try with_reducible rfl)
                    try simp only [Act.put, List.setIfInBounds_toArray, List.set_cons_zero, List.set_cons_succ]
                    refine g_take (i := 20) (d := (some 66)) (v := ?_) rfl rfl (by kernel_rfl) (fun _ _ _ h => h) (by rfl) (fun w' hb' => ?_) ?_
                    rotate_left
                    · (try go_simp); (try with_reducible rfl)
                    try simp only [Act.put, List.setIfInBounds_toArray, List.set_cons_zero, List.set_cons_succ]
                    refine g_take (i := 21) (d := (some 67)) (v := ?_) rfl rfl (by kernel_rfl) (fun _ _ _ h => h) (by rfl) (fun w' hb' => ?_) ?_
                    rotate_left
                    · (try go_simp); (try with_reducible rfl)
                    try simp only [Act.put, List.setIfInBounds_toArray, List.set_cons_zero, List.set_cons_succ]
                    refine g_take (i := 22) (d := (some 68)) (v := ?_) rfl rfl (by kernel_rfl) (fun _ _ _ h => h) (by rfl) (fun w' hb' => ?_) ?_
                    rotate_left
                    · (try go_simp); (try with_reducible rfl)
                    try simp only [Act.put, List.setIfInBounds_toArray, List.set_cons_zero, List.set_cons_succ]
                    refine g_take (i := 23) (d := (some 69)) (v := ?_) rfl rfl (by kernel_rfl) (fun _ _ _ h => h) (by rfl) (fun w' hb' => ?_) ?_
                    rotate_left
                    · have x2 := (hb'.cell (p := ⟨pb, po + k * 3 + 2, none⟩) hpx).trans X2; (try go_simp); (try with_reducible rfl)
                    try simp only [Act.put, List.setIfInBounds_toArray, List.set_cons_zero, List.set_cons_succ]
                    refine g_take (i := 24) (d := (some 70)) (v := ?_) rfl rfl (by kernel_rfl) (fun _ _ _ h => h) (by rfl) (fun w' hb' => ?_) ?_
                    rotate_left
                    · (try go_simp); (try with_reducible rfl)
                    try simp only [Act.put, List.setIfInBounds_toArray, List.set_cons_zero, List.set_cons_succ]
                    refine g_take (i := 25) (d := (some 71)) (v := ?_) rfl rfl (by kernel_rfl) (fun _ _ _ h => h) (by rfl) (fun w' hb' => ?_) ?_
                    rotate_left
                    · (try go_simp); (try with_reducible rfl)
                    try simp only [Act.put, List.setIfInBounds_toArray, List.set_cons_zero, List.set_cons_succ]
                    refine g_take (i := 26) (d := (some 72)) (v := ?_) rfl rfl (by kernel_rfl) (fun _ _ _ h => h) (by rfl) (fun w' hb' => ?_) ?_
                    rotate_left
                    · (try go_simp); (try with_reducible rfl)
                    try simp only [Act.put, List.setIfInBounds_toArray, List.set_cons_zero, List.set_cons_succ]
                    refine g_take (i := 27) (d := (some 73)) (v := ?_) rfl rfl (by kernel_rfl) (fun _ _ _ h => h) (by rfl) (fun w' hb' => ?_) ?_
                    rotate_left
                    · (try go_simp); (try with_reducible rfl)
                    try simp only [Act.put, List.setIfInBounds_toArray, List.set_cons_zero, List.set_cons_succ]
                    refine g_take (i := 28) (d := (some 74)) (v := ?_) rfl rfl (by kernel_rfl) (fun _ _ _ h => h) (by rfl) (fun w' hb' => ?_) ?_
                    rotate_left
                    · obtain ⟨d0, d1, d2, df⟩ := block_cells3 ((hb'.block _ (lt_of_block p5)).trans p5); (try go_simp); (try with_reducible rfl)
                    try simp only [Act.put, List.setIfInBounds_toArray, List.set_cons_zero, List.set_cons_succ]
                    refine g_take (i := 29) (d := (some 75)) (v := ?_) rfl rfl (by kernel_rfl) (fun _ _ _ h => h) (by rfl) (fun w' hb' => ?_) ?_
                    rotate_left
                    · (try go_simp); (try with_reducible rfl)
                    try simp only [Act.put, List.setIfInBounds_toArray, List.set_cons_zero, List.set_cons_succ]
                    refine g_take (i := 30) (d := (some 76)) (v := ?_) rfl rfl (by kernel_rfl) (fun _ _ _ h => h) (by rfl) (fun w' hb' => ?_) ?_
                    rotate_left
                    · (try go_simp); (try with_reducible rfl)
                    try simp only [Act.put, List.setIfInBounds_toArray, List.set_cons_zero, List.set_cons_succ]
                    refine g_take (i := 31) (d := (some 77)) (v := ?_) rfl rfl (by kernel_rfl) (fun _ _ _ h => h) (by rfl) (fun w' hb' => ?_) ?_
                    rotate_left
                    · (try go_simp); (try with_reducible rfl)
                    try simp only [Act.put, List.setIfInBounds_toArray, List.set_cons_zero, List.set_cons_succ]
                    refine g_take (i := 32) (d := (some 78)) (v := ?_) rfl rfl (by kernel_rfl) (fun _ _ _ h => h) (by rfl) (fun w' hb' => ?_) ?_
                    rotate_left
                    · have y0 := (hb'.cell (p := ⟨qb, qo + q * 3, none⟩) hqx).trans Y0; (try go_simp); (try with_reducible rfl)
                    try simp only [Act.put, List.setIfInBounds_toArray, List.set_cons_zero, List.set_cons_succ]
                    refine g_take (i := 33) (d := (some 79)) (v := ?_) rfl rfl (by kernel_rfl) (fun _ _ _ h => h) (by rfl) (fun w' hb' => ?_) ?_
                    rotate_left
                    · (try go_simp); (try with_reducible rfl)
                    try simp only [Act.put, List.setIfInBounds_toArray, List.set_cons_zero, List.set_cons_succ]
                    refine g_take (i := 34) (d := (some 80)) (v := ?_) rfl rfl (by kernel_rfl) (fun _ _ _ h => h) (by rfl) (fun w' hb' => ?_) ?_
                    rotate_left
                    · (try go_simp); (try with_reducible rfl)
                    try simp only [Act.put, List.setIfInBounds_toArray, List.set_cons_zero, List.set_cons_succ]
                    refine g_take (i := 35) (d := (some 81)) (v := ?_) rfl rfl (by kernel_rfl) (fun _ _ _ h => h) (by rfl) (fun w' hb' => ?_) ?_
                    rotate_left
                    · (try go_simp); (try with_reducible rfl)
                    try simp only [Act.put, List.setIfInBounds_toArray, List.set_cons_zero, List.set_cons_succ]
                    refine g_take (i := 36) (d := (some 82)) (v := ?_) rfl rfl (by kernel_rfl) (fun _ _ _ h => h) (by rfl) (fun w' hb' => ?_) ?_
                    rotate_left
                    · (try go_simp); (try with_reducible rfl)
                    try simp only [Act.put, List.setIfInBounds_toArray, List.set_cons_zero, List.set_cons_succ]
                    refine g_take (i := 37) (d := (some 83)) (v := ?_) rfl rfl (by kernel_rfl) (fun _ _ _ h => h) (by rfl) (fun w' hb' => ?_) ?_
                    rotate_left
                    · have x0 := (hb'.cell (p := ⟨pb, po + k * 3, none⟩) hpx).trans X0; (try go_simp); (try with_reducible rfl)
                    try simp only [Act.put, List.setIfInBounds_toArray, List.set_cons_zero, List.set_cons_succ]
                    refine g_take (i := 38) (d := (some 84)) (v := ?_) rfl rfl (by kernel_rfl) (fun _ _ _ h => h) (by rfl) (fun w' hb' => ?_) ?_
                    rotate_left
                    · (try go_simp); (try with_reducible rfl)
                    try simp only [Act.put, List.setIfInBounds_toArray, List.set_cons_zero, List.set_cons_succ]
                    refine g_take (i := 39) (d := (some 85)) (v := ?_) rfl rfl (by kernel_rfl) (fun _ _ _ h => h) (by rfl) (fun w' hb' => ?_) ?_
                    rotate_left
                    · (try go_simp); (try with_reducible rfl)
                    try simp only [Act.put, List.setIfInBounds_toArray, List.set_cons_zero, List.set_cons_succ]
                    refine g_done (by kernel_rfl) ?_
                    go_wp2_with fail
                    exact ⟨⟨q + 1, by omega, by push_cast; rfl, by rw [HU.out]; push_cast; rfl, BQ.drew⟩, by simp [intOf]; omega⟩
                · have g2 : (y3v == c) = false := by simpa using e2
                  have HU := Lib.hid (show sameN (ml.take (q + 1)) ⟨a, b, c⟩ = sameN (ml.take q) ⟨a, b, c⟩ by rw [HUP.out, decide_eq_true e1, decide_eq_false e2]; rfl)
                  clear e1 e2
                  go_wp2_with fail
                  clear d0 d1 d2 df
                  replace p5 := show wr.drew.heap[w.heap.size]? = _ from p5
                  replace X0 := show wr.drew.cell? _ = _ from X0
                  replace X1 := show wr.drew.cell? _ = _ from X1
                  replace X2 := show wr.drew.cell? _ = _ from X2
                  replace Y0 := show wr.drew.cell? _ = _ from Y0
                  replace Y1 := show wr.drew.cell? _ = _ from Y1
                  replace Y2 := show wr.drew.cell? _ = _ from Y2
                  replace hpx := show pb < wr.drew.heap.size from hpx
                  replace hqx := show qb < wr.drew.heap.size from hqx
                  refine g_start (by kernel_rfl) ?_
                  refine g_take (i := 0) (d := (some 46)) (v := ?_) rfl rfl (by kernel_rfl) (fun _ _ _ h => h) (by rfl) (fun w' hb' => ?_) ?_
                  rotate_left
                  · (try go_simp); (try with_reducible rfl)
                  try simp only [Act.put, List.setIfInBounds_toArray, List.set_cons_zero, List.set_cons_succ]
                  refine g_take (i := 1) (d := (some 47)) (v := ?_) rfl rfl (by kernel_rfl) (fun _ _ _ h => h) (by rfl) (fun w' hb' => ?_) ?_
                  rotate_left
                  · obtain ⟨d0, d1, d2, df⟩ := block_cells3 ((hb'.block _ (lt_of_block p5)).trans p5); (try go_simp); (try with_reducible rfl)
                  try simp only [Act.put, List.setIfInBounds_toArray, List.set_cons_zero, List.set_cons_succ]
                  refine g_take (i := 2) (d := (some 48)) (v := ?_) rfl rfl (by kernel_rfl) (fun _ _ _ h => h) (by rfl) (fun w' hb' => ?_) ?_
                  rotate_left
                  · (try go_simp); (try with_reducible rfl)
                  try simp only [Act.put, List.setIfInBounds_toArray, List.set_cons_zero, List.set_cons_succ]
                  refine g_take (i := 3) (d := (some 49)) (v := ?_) rfl rfl (by kernel_rfl) (fun _ _ _ h => h) (by rfl) (fun w' hb' => ?_) ?_
                  rotate_left
                  · (try go_simp); (try with_reducible rfl)
                  try simp only [Act.put, List.setIfInBounds_toArray, List.set_cons_zero, List.set_cons_succ]
                  refine g_take (i := 4) (d := (some 50)) (v := ?_) rfl rfl (by kernel_rfl) (fun _ _ _ h => h) (by rfl) (fun w' hb' => ?_) ?_
                  rotate_left
                  · (try go_simp); (try with_reducible rfl)
                  try simp only [Act.put, List.setIfInBounds_toArray, List.set_cons_zero, List.set_cons_succ]
                  refine g_take (i := 5) (d := (some 51)) (v := ?_) rfl rfl (by kernel_rfl) (fun _ _ _ h => h) (by rfl) (fun w' hb' => ?_) ?_
                  rotate_left
                  · have y1 := (hb'.cell (p := ⟨qb, qo + q * 3 + 1, none⟩) hqx).trans Y1; (try go_simp); (try with_reducible rfl)
                  try simp only [Act.put, List.setIfInBounds_toArray, List.set_cons_zero, List.set_cons_succ]
                  refine g_take (i := 6) (d := (some 52)) (v := ?_) rfl rfl (by kernel_rfl) (fun _ _ _ h => h) (by rfl) (fun w' hb' => ?_) ?_
                  rotate_left
                  · (try go_simp); (try with_reducible rfl)
                  try simp only [Act.put, List.setIfInBounds_toArray, List.set_cons_zero, List.set_cons_succ]
                  refine g_take (i := 7) (d := (some 53)) (v := ?_) rfl rfl (by kernel_rfl) (fun _ _ _ h => h) (by rfl) (fun w' hb' => ?_) ?_
                  rotate_left
                  · (try go_simp); (try with_reducible rfl)
                  try simp only [Act.put, List.setIfInBounds_toArray, List.set_cons_zero, List.set_cons_succ]
                  refine g_take (i := 8) (d := (some 54)) (v := ?_) rfl rfl (by kernel_rfl) (fun _ _ _ h => h) (by rfl) (fun w' hb' => ?_) ?_
                  rotate_left
                  · (try go_simp); (try with_reducible rfl)
                  try simp only [Act.put, List.setIfInBounds_toArray, List.set_cons_zero, List.set_cons_succ]
                  refine g_take (i := 9) (d := (some 55)) (v := ?_) rfl rfl (by kernel_rfl) (fun _ _ _ h => h) (by rfl) (fun w' hb' => ?_) ?_
                  rotate_left
                  · (try go_simp); (try with_reducible rfl)
                  try simp only [Act.put, List.setIfInBounds_toArray, List.set_cons_zero, List.set_cons_succ]
                  refine g_take (i := 10) (d := (some 56)) (v := ?_) rfl rfl (by kernel_rfl) (fun _ _ _ h => h) (by rfl) (fun w' hb' => ?_) ?_
                  rotate_left
                  · have x1 := (hb'.cell (p := ⟨pb, po + k * 3 + 1, none⟩) hpx).trans X1; (try go_simp); (try with_reducible rfl)
                  try simp only [Act.put, List.setIfInBounds_toArray, List.set_cons_zero, List.set_cons_succ]
                  refine g_take (i := 11) (d := (some 57)) (v := ?_) rfl rfl (by kernel_rfl) (fun _ _ _ h => h) (by rfl) (fun w' hb' => ?_) ?_
                  rotate_left
                  · (try go_simp); (try with_reducible rfl)
                  try simp only [Act.put, List.setIfInBounds_toArray, List.set_cons_zero, List.set_cons_succ]
                  refine g_take (i := 12) (d := (some 58)) (v := ?_) rfl rfl (by kernel_rfl) (fun _ _ _ h => h) (by rfl) (fun w' hb' => ?_) ?_
                  rotate_left
                  · (try go_simp); (try with_reducible rfl)
                  try simp only [Act.put, List.setIfInBounds_toArray, List.set_cons_zero, List.set_cons_succ]
                  refine g_take (i := 13) (d := (some 59)) (v := ?_) rfl rfl (by kernel_rfl) (fun _ _ _ h => h) (by rfl) (fun w' hb' => ?_) ?_
                  rotate_left
                  · (try go_simp); (try with_reducible rfl)
                  try simp only [Act.put, List.setIfInBounds_toArray, List.set_cons_zero, List.set_cons_succ]
                  refine g_take (i := 14) (d := (some 60)) (v := ?_) rfl rfl (by kernel_rfl) (fun _ _ _ h => h) (by rfl) (fun w' hb' => ?_) ?_
                  rotate_left
                  · obtain ⟨d0, d1, d2, df⟩ := block_cells3 ((hb'.block _ (lt_of_block p5)).trans p5); (try go_simp); (try with_reducible rfl)
                  try simp only [Act.put, List.setIfInBounds_toArray, List.set_cons_zero, List.set_cons_succ]
                  refine g_take (i := 15) (d := (some 61)) (v := ?_) rfl rfl (by kernel_rfl) (fun _ _ _ h => h) (by rfl) (fun w' hb' => ?_) ?_
                  rotate_left
                  · (try go_simp); (try with_reducible rfl)
                  try simp only [Act.put, List.setIfInBounds_toArray, List.set_cons_zero, List.set_cons_succ]
                  refine g_take (i := 16) (d := (some 62)) (v := ?_) rfl rfl (by kernel_rfl) (fun _ _ _ h => h) (by rfl) (fun w' hb' => ?_) ?_
                  rotate_left
                  · (try go_simp); (try with_reducible rfl)
                  try simp only [Act.put, List.setIfInBounds_toArray, List.set_cons_zero, List.set_cons_succ]
                  refine g_take (i := 17) (d := (some 63)) (v := ?_) rfl rfl (by kernel_rfl) (fun _ _ _ h => h) (by rfl) (fun w' hb' => ?_) ?_
                  rotate_left
                  · (try go_simp); (try with_reducible rfl)
                  try simp only [Act.put, List.setIfInBounds_toArray, List.set_cons_zero, List.set_cons_succ]
                  refine g_take (i := 18) (d := (some 64)) (v := ?_) rfl rfl (by kernel_rfl) (fun _ _ _ h => h) (by rfl) (fun w' hb' => ?_) ?_
                  rotate_left
                  · have y2 := (hb'.cell (p := ⟨qb, qo + q * 3 + 2, none⟩) hqx).trans Y2; (try go_simp); (try with_reducible rfl)
                  try simp only [Act.put, List.setIfInBounds_toArray, List.set_cons_zero, List.set_cons_succ]
                  refine g_take (i := 19) (d := (some 65)) (v := ?_) rfl rfl (by kernel_rfl) (fun _ _ _ h => h) (by rfl) (fun w' hb' => ?_) ?_
                  rotate_left
                  · (try go_simp); (try with_reducible rfl)
                  try simp only [Act.put, List.setIfInBounds_toArray, List.set_cons_zero, List.set_cons_succ]
                  refine g_take (i := 20) (d := (some 66)) (v := ?_) rfl rfl (by kernel_rfl) (fun _ _ _ h => h) (by rfl) (fun w' hb' => ?_) ?_
                  rotate_left
                  · (try go_simp); (try with_reducible rfl)
                  try simp only [Act.put, List.setIfInBounds_toArray, List.set_cons_zero, List.set_cons_succ]
                  refine g_take (i := 21) (d := (some 67)) (v := ?_) rfl rfl (by kernel_rfl) (fun _ _ _ h => h) (by rfl) (fun w' hb' => ?_) ?_
                  rotate_left
                  · (try go_simp); (try with_reducible rfl)
                  try simp only [Act.put, List.setIfInBounds_toArray, List.set_cons_zero, List.set_cons_succ]
                  refine g_take (i := 22) (d := (some 68)) (v := ?_) rfl rfl (by kernel_rfl) (fun _ _ _ h => h) (by rfl) (fun w' hb' => ?_) ?_
                  rotate_left
                  · (try go_simp); (try with_reducible rfl)
                  try simp only [Act.put, List.setIfInBounds_toArray, List.set_cons_zero, List.set_cons_succ]
                  refine g_take (i := 23) (d := (some 69)) (v := ?_) rfl rfl (by kernel_rfl) (fun _ _ _ h => h) (by rfl) (fun w' hb' => ?_) ?_
                  rotate_left
                  · have x2 := (hb'.cell (p := ⟨pb, po + k * 3 + 2, none⟩) hpx).trans X2; (try go_simp); (try with_reducible rfl)
                  try simp only [Act.put, List.setIfInBounds_toArray, List.set_cons_zero, List.set_cons_succ]
                  refine g_take (i := 24) (d := (some 70)) (v := ?_) rfl rfl (by kernel_rfl) (fun _ _ _ h => h) (by rfl) (fun w' hb' => ?_) ?_
                  rotate_left
                  · (try go_simp); (try with_reducible rfl)
                  try simp only [Act.put, List.setIfInBounds_toArray, List.set_cons_zero, List.set_cons_succ]
                  refine g_take (i := 25) (d := (some 71)) (v := ?_) rfl rfl (by kernel_rfl) (fun _ _ _ h => h) (by rfl) (fun w' hb' => ?_) ?_
                  rotate_left
                  · (try go_simp); (try with_reducible rfl)
                  try simp only [Act.put, List.setIfInBounds_toArray, List.set_cons_zero, List.set_cons_succ]
                  refine g_take (i := 26) (d := (some 72)) (v := ?_) rfl rfl (by kernel_rfl) (fun _ _ _ h => h) (by rfl) (fun w' hb' => ?_) ?_
                  rotate_left
                  · (try go_simp); (try with_reducible rfl)
                  try simp only [Act.put, List.setIfInBounds_toArray, List.set_cons_zero, List.set_cons_succ]
                  refine g_skip (i := 27) (d := (some 73)) rfl rfl (by kernel_rfl) (fun _ _ _ h => h) (by rfl) ?_
                  try simp only [Act.put, List.setIfInBounds_toArray, List.set_cons_zero, List.set_cons_succ]
                  refine g_skip (i := 28) (d := (some 74)) rfl rfl (by kernel_rfl) (fun _ _ _ h => h) (by rfl) ?_
                  try simp only [Act.put, List.setIfInBounds_toArray, List.set_cons_zero, List.set_cons_succ]
                  refine g_skip (i := 29) (d := (some 75)) rfl rfl (by kernel_rfl) (fun _ _ _ h => h) (by rfl) ?_
                  try simp only [Act.put, List.setIfInBounds_toArray, List.set_cons_zero, List.set_cons_succ]
                  refine g_skip (i := 30) (d := (some 76)) rfl rfl (by kernel_rfl) (fun _ _ _ h => h) (by rfl) ?_
                  try simp only [Act.put, List.setIfInBounds_toArray, List.set_cons_zero, List.set_cons_succ]
                  refine g_skip (i := 31) (d := (some 77)) rfl rfl (by kernel_rfl) (fun _ _ _ h => h) (by rfl) ?_
                  try simp only [Act.put, List.setIfInBounds_toArray, List.set_cons_zero, List.set_cons_succ]
                  refine g_skip (i := 32) (d := (some 78)) rfl rfl (by kernel_rfl) (fun _ _ _ h => h) (by rfl) ?_
                  try simp only [Act.put, List.setIfInBounds_toArray, List.set_cons_zero, List.set_cons_succ]
                  refine g_skip (i := 33) (d := (some 79)) rfl rfl (by kernel_rfl) (fun _ _ _ h => h) (by rfl) ?_
                  try simp only [Act.put, List.setIfInBounds_toArray, List.set_cons_zero, List.set_cons_succ]
                  refine g_skip (i := 34) (d := (some 80)) rfl rfl (by kernel_rfl) (fun _ _ _ h => h) (by rfl) ?_
                  try simp only [Act.put, List.setIfInBounds_toArray, List.set_cons_zero, List.set_cons_succ]
                  refine g_skip (i := 35) (d := (some 81)) rfl rfl (by kernel_rfl) (fun _ _ _ h => h) (by rfl) ?_
                  try simp only [Act.put, List.setIfInBounds_toArray, List.set_cons_zero, List.set_cons_succ]
                  refine g_skip (i := 36) (d := (some 82)) rfl rfl (by kernel_rfl) (fun _ _ _ h => h) (by rfl) ?_
                  try simp only [Act.put, List.setIfInBounds_toArray, List.set_cons_zero, List.set_cons_succ]
                  refine g_skip (i := 37) (d := (some 83)) rfl rfl (by kernel_rfl) (fun _ _ _ h => h) (by rfl) ?_
                  try simp only [Act.put, List.setIfInBounds_toArray, List.set_cons_zero, List.set_cons_succ]
                  refine g_skip (i := 38) (d := (some 84)) rfl rfl (by kernel_rfl) (fun _ _ _ h => h) (by rfl) ?_
                  try simp only [Act.put, List.setIfInBounds_toArray, List.set_cons_zero, List.set_cons_succ]
                  refine g_take (i := 39) (d := (some 85)) (v := ?_) rfl rfl (by kernel_rfl) (fun _ _ _ h => h) (by rfl) (fun w' hb' => ?_) ?_
                  rotate_left
                  · (try go_simp); (try with_reducible rfl)
                  try simp only [Act.put, List.setIfInBounds_toArray, List.set_cons_zero, List.set_cons_succ]
                  refine g_done (by kernel_rfl) ?_
                  go_wp2_with fail
                  exact ⟨⟨q + 1, by omega, by push_cast; rfl, by rw [HU.out], BQ.drew⟩, by simp [intOf]; omega⟩
              · have g1 : (y2v == b) = false := by simpa using e1
                have HU := Lib.hid (show sameN (ml.take (q + 1)) ⟨a, b, c⟩ = sameN (ml.take q) ⟨a, b, c⟩ by rw [HUP.out, decide_eq_false e1]; rfl)
                clear e1
                go_wp2_with fail
                clear d0 d1 d2 df
                replace p5 := show wr.drew.heap[w.heap.size]? = _ from p5
                replace X0 := show wr.drew.cell? _ = _ from X0
                replace X1 := show wr.drew.cell? _ = _ from X1
                replace X2 := show wr.drew.cell? _ = _ from X2
                replace Y0 := show wr.drew.cell? _ = _ from Y0
                replace Y1 := show wr.drew.cell? _ = _ from Y1
                replace Y2 := show wr.drew.cell? _ = _ from Y2
                replace hpx := show pb < wr.drew.heap.size from hpx
                replace hqx := show qb < wr.drew.heap.size from hqx
                refine g_start (by kernel_rfl) ?_
                refine g_take (i := 0) (d := (some 46)) (v := ?_) rfl rfl (by kernel_rfl) (fun _ _ _ h => h) (by rfl) (fun w' hb' => ?_) ?_
                rotate_left
                · (try go_simp); (try with_reducible rfl)
                try simp only [Act.put, List.setIfInBounds_toArray, List.set_cons_zero, List.set_cons_succ]
                refine g_take (i := 1) (d := (some 47)) (v := ?_) rfl rfl (by kernel_rfl) (fun _ _ _ h => h) (by rfl) (fun w' hb' => ?_) ?_
                rotate_left
                · obtain ⟨d0, d1, d2, df⟩ := block_cells3 ((hb'.block _ (lt_of_block p5)).trans p5); (try go_simp); (try with_reducible rfl)
                try simp only [Act.put, List.setIfInBounds_toArray, List.set_cons_zero, List.set_cons_succ]
                refine g_take (i := 2) (d := (some 48)) (v := ?_) rfl rfl (by kernel_rfl) (fun _ _ _ h => h) (by rfl) (fun w' hb' => ?_) ?_
                rotate_left
                · (try go_simp); (try with_reducible rfl)
                try simp only [Act.put, List.setIfInBounds_toArray, List.set_cons_zero, List.set_cons_succ]
                refine g_take (i := 3) (d := (some 49)) (v := ?_) rfl rfl (by kernel_rfl) (fun _ _ _ h => h) (by rfl) (fun w' hb' => ?_) ?_
                rotate_left
                · (try go_simp); (try with_reducible rfl)
                try simp only [Act.put, List.setIfInBounds_toArray, List.set_cons_zero, List.set_cons_succ]
                refine g_take (i := 4) (d := (some 50)) (v := ?_) rfl rfl (by kernel_rfl) (fun _ _ _ h => h) (by rfl) (fun w' hb' => ?_) ?_
                rotate_left
                · (try go_simp); (try with_reducible rfl)
                try simp only [Act.put, List.setIfInBounds_toArray, List.set_cons_zero, List.set_cons_succ]
                refine g_take (i := 5) (d := (some 51)) (v := ?_) rfl rfl (by kernel_rfl) (fun _ _ _ h => h) (by rfl) (fun w' hb' => ?_) ?_
                rotate_left
                · have y1 := (hb'.cell (p := ⟨qb, qo + q * 3 + 1, none⟩) hqx).trans Y1; (try go_simp); (try with_reducible rfl)
                try simp only [Act.put, List.setIfInBounds_toArray, List.set_cons_zero, List.set_cons_succ]
                refine g_take (i := 6) (d := (some 52)) (v := ?_) rfl rfl (by kernel_rfl) (fun _ _ _ h => h) (by rfl) (fun w' hb' => ?_) ?_
                rotate_left
                · (try go_simp); (try with_reducible rfl)
                try simp only [Act.put, List.setIfInBounds_toArray, List.set_cons_zero, List.set_cons_succ]
                refine g_take (i := 7) (d := (some 53)) (v := ?_) rfl rfl (by kernel_rfl) (fun _ _ _ h => h) (by rfl) (fun w' hb' => ?_) ?_
                rotate_left
                · (try go_simp); (try with_reducible rfl)
                try simp only [Act.put, List.setIfInBounds_toArray, List.set_cons_zero, List.set_cons_succ]
                refine g_take (i := 8) (d := (some 54)) (v := ?_) rfl rfl (by kernel_rfl) (fun _ _ _ h => h) (by rfl) (fun w' hb' => ?_) ?_
                rotate_left
                · (try go_simp); (try with_reducible rfl)
                try simp only [Act.put, List.setIfInBounds_toArray, List.set_cons_zero, List.set_cons_succ]
                refine g_take (i := 9) (d := (some 55)) (v := ?_) rfl rfl (by kernel_rfl) (fun _ _ _ h => h) (by rfl) (fun w' hb' => ?_) ?_
                rotate_left
                · (try go_simp); (try with_reducible rfl)
                try simp only [Act.put, List.setIfInBounds_toArray, List.set_cons_zero, List.set_cons_succ]
                refine g_take (i := 10) (d := (some 56)) (v := ?_) rfl rfl (by kernel_rfl) (fun _ _ _ h => h) (by rfl) (fun w' hb' => ?_) ?_
                rotate_left
                · have x1 := (hb'.cell (p := ⟨pb, po + k * 3 + 1, none⟩) hpx).trans X1; (try go_simp); (try with_reducible rfl)
                try simp only [Act.put, List.setIfInBounds_toArray, List.set_cons_zero, List.set_cons_succ]
                refine g_take (i := 11) (d := (some 57)) (v := ?_) rfl rfl (by kernel_rfl) (fun _ _ _ h => h) (by rfl) (fun w' hb' => ?_) ?_
                rotate_left
                · (try go_simp); (try with_reducible rfl)
                try simp only [Act.put, List.setIfInBounds_toArray, List.set_cons_zero, List.set_cons_succ]
                refine g_take (i := 12) (d := (some 58)) (v := ?_) rfl rfl (by kernel_rfl) (fun _ _ _ h => h) (by rfl) (fun w' hb' => ?_) ?_
                rotate_left
                · (try go_simp); (try with_reducible rfl)
                try simp only [Act.put, List.setIfInBounds_toArray, List.set_cons_zero, List.set_cons_succ]
                refine g_skip (i := 13) (d := (some 59)) rfl rfl (by kernel_rfl) (fun _ _ _ h => h) (by rfl) ?_
                try simp only [Act.put, List.setIfInBounds_toArray, List.set_cons_zero, List.set_cons_succ]
                refine g_skip (i := 14) (d := (some 60)) rfl rfl (by kernel_rfl) (fun _ _ _ h => h) (by rfl) ?_
                try simp only [Act.put, List.setIfInBounds_toArray, List.set_cons_zero, List.set_cons_succ]
                refine g_skip (i := 15) (d := (some 61)) rfl rfl (by kernel_rfl) (fun _ _ _ h => h) (by rfl) ?_
                try simp only [Act.put, List.setIfInBounds_toArray, List.set_cons_zero, List.set_cons_succ]
                refine g_skip (i := 16) (d := (some 62)) rfl rfl (by kernel_rfl) (fun _ _ _ h => h) (by rfl) ?_
                try simp only [Act.put, List.setIfInBounds_toArray, List.set_cons_zero, List.set_cons_succ]
                refine g_skip (i := 17) (d := (some 63)) rfl rfl (by kernel_rfl) (fun _ _ _ h => h) (by rfl) ?_
                try simp only [Act.put, List.setIfInBounds_toArray, List.set_cons_zero, List.set_cons_succ]
                refine g_skip (i := 18) (d := (some 64)) rfl rfl (by kernel_rfl) (fun _ _ _ h => h) (by rfl) ?_
                try simp only [Act.put, List.setIfInBounds_toArray, List.set_cons_zero, List.set_cons_succ]
                refine g_skip (i := 19) (d := (some 65)) rfl rfl (by kernel_rfl) (fun _ _ _ h => h) (by rfl) ?_
                try simp only [Act.put, List.setIfInBounds_toArray, List.set_cons_zero, List.set_cons_succ]
                refine g_skip (i := 20) (d := (some 66)) rfl rfl (by kernel_rfl) (fun _ _ _ h => h) (by rfl) ?_
                try simp only [Act.put, List.setIfInBounds_toArray, List.set_cons_zero, List.set_cons_succ]
                refine g_skip (i := 21) (d := (some 67)) rfl rfl (by kernel_rfl) (fun _ _ _ h => h) (by rfl) ?_
                try simp only [Act.put, List.setIfInBounds_toArray, List.set_cons_zero, List.set_cons_succ]
                refine g_skip (i := 22) (d := (some 68)) rfl rfl (by kernel_rfl) (fun _ _ _ h => h) (by rfl) ?_
                try simp only [Act.put, List.setIfInBounds_toArray, List.set_cons_zero, List.set_cons_succ]
                refine g_skip (i := 23) (d := (some 69)) rfl rfl (by kernel_rfl) (fun _ _ _ h => h) (by rfl) ?_
                try simp only [Act.put, List.setIfInBounds_toArray, List.set_cons_zero, List.set_cons_succ]
                refine g_skip (i := 24) (d := (some 70)) rfl rfl (by kernel_rfl) (fun _ _ _ h => h) (by rfl) ?_
                try simp only [Act.put, List.setIfInBounds_toArray, List.set_cons_zero, List.set_cons_succ]
                refine g_take (i := 25) (d := (some 71)) (v := ?_) rfl rfl (by kernel_rfl) (fun _ _ _ h => h) (by rfl) (fun w' hb' => ?_) ?_
                rotate_left
                · (try go_simp); (try with_reducible rfl)
                try simp only [Act.put, List.setIfInBounds_toArray, List.set_cons_zero, List.set_cons_succ]
                refine g_take (i := 26) (d := (some 72)) (v := ?_) rfl rfl (by kernel_rfl) (fun _ _ _ h => h) (by rfl) (fun w' hb' => ?_) ?_
                rotate_left
                · (try go_simp); (try with_reducible rfl)
                try simp only [Act.put, List.setIfInBounds_toArray, List.set_cons_zero, List.set_cons_succ]
                refine g_skip (i := 27) (d := (some 73)) rfl rfl (by kernel_rfl) (fun _ _ _ h => h) (by rfl) ?_
                try simp only [Act.put, List.setIfInBounds_toArray, List.set_cons_zero, List.set_cons_succ]
                refine g_skip (i := 28) (d := (some 74)) rfl rfl (by kernel_rfl) (fun _ _ _ h => h) (by rfl) ?_
                try simp only [Act.put, List.setIfInBounds_toArray, List.set_cons_zero, List.set_cons_succ]
                refine g_skip (i := 29) (d := (some 75)) rfl rfl (by kernel_rfl) (fun _ _ _ h => h) (by rfl) ?_
                try simp only [Act.put, List.setIfInBounds_toArray, List.set_cons_zero, List.set_cons_succ]
                refine g_skip (i := 30) (d := (some 76)) rfl rfl (by kernel_rfl) (fun _ _ _ h => h) (by rfl) ?_
                try simp only [Act.put, List.setIfInBounds_toArray, List.set_cons_zero, List.set_cons_succ]
                refine g_skip (i := 31) (d := (some 77)) rfl rfl (by kernel_rfl) (fun _ _ _ h => h) (by rfl) ?_
                try simp only [Act.put, List.setIfInBounds_toArray, List.set_cons_zero, List.set_cons_succ]
                refine g_skip (i := 32) (d := (some 78)) rfl rfl (by kernel_rfl) (fun _ _ _ h => h) (by rfl) ?_
                try simp only [Act.put, List.setIfInBounds_toArray, List.set_cons_zero, List.set_cons_succ]
                refine g_skip (i := 33) (d := (some 79)) rfl rfl (by kernel_rfl) (fun _ _ _ h => h) (by rfl) ?_
                try simp only [Act.put, List.setIfInBounds_toArray, List.set_cons_zero, List.set_cons_succ]
                refine g_skip (i := 34) (d := (some 80)) rfl rfl (by kernel_rfl) (fun _ _ _ h => h) (by rfl) ?_
                try simp only [Act.put, List.setIfInBounds_toArray, List.set_cons_zero, List.set_cons_succ]
                refine g_skip (i := 35) (d := (some 81)) rfl rfl (by kernel_rfl) (fun _ _ _ h => h) (by rfl) ?_
                try simp only [Act.put, List.setIfInBounds_toArray, List.set_cons_zero, List.set_cons_succ]
                refine g_skip (i := 36) (d := (some 82)) rfl rfl (by kernel_rfl) (fun _ _ _ h => h) (by rfl) ?_
                try simp only [Act.put, List.setIfInBounds_toArray, List.set_cons_zero, List.set_cons_succ]
                refine g_skip (i := 37) (d := (some 83)) rfl rfl (by kernel_rfl) (fun _ _ _ h => h) (by rfl) ?_
                try simp only [Act.put, List.setIfInBounds_toArray, List.set_cons_zero, List.set_cons_succ]
                refine g_skip (i := 38) (d := (some 84)) rfl rfl (by kernel_rfl) (fun _ _ _ h => h) (by rfl) ?_
                try simp only [Act.put, List.setIfInBounds_toArray, List.set_cons_zero, List.set_cons_succ]
                refine g_take (i := 39) (d := (some 85)) (v := ?_) rfl rfl (by kernel_rfl) (fun _ _ _ h => h) (by rfl) (fun w' hb' => ?_) ?_
                rotate_left
                · (try go_simp); (try with_reducible rfl)
                try simp only [Act.put, List.setIfInBounds_toArray, List.set_cons_zero, List.set_cons_succ]
                refine g_done (by kernel_rfl) ?_
                go_wp2_with fail
                exact ⟨⟨q + 1, by omega, by push_cast; rfl, by rw [HU.out], BQ.drew⟩, by simp [intOf]; omega⟩
            · obtain rfl : q = ml.length := by omega
              rw [List.take_length]
              have q8 := (BQ.block _ (lt_of_block Q8.out)).trans Q8.out
              have RQ := HRES.out.below BQ (Nat.le_refl _)
              obtain ⟨e0, e1, e2, ef⟩ := block_cells3 q8
              have hsm := same_le ml ⟨a, b, c⟩
              obtain ⟨sm, hsmm⟩ : ∃ sm, sm = sameN ml ⟨a, b, c⟩ := ⟨_, rfl⟩
              have h1 := HSBS.out
              rw [← hsmm] at hsm h1 ⊢
              have h2 := HSBL.out
              have hlo := HLOW.out
              have hle := HLEN.out
              have hfb := HFB.out
              have hn16 := HN16.out
              have gf : (f == 0) = false := by simp; omega
              have hnl : ¬ (rl < low) := by omega
              have hsm64 : sm ≤ 64 := by omega
              clear hsmm
              by_cases hs : 2 * f + 1 ≤ (sm : Int) + 1
              · rw [decide_eq_true hs] at h1
                subst h1
                have hll : low < rl := by simpa using h2.symm
                clear h2
                go_wp2_with ((with_reducible refine (MAY.out _ BQ).mono ?_); rintro e w6 ⟨rfl, g⟩; (replace p5 := (g.block _ (lt_of_block p5)).trans p5); (replace q8 := (g.block _ (lt_of_block q8)).trans q8); (have R6 := RQ.below g (Nat.le_refl _)); (replace BQ := chain BQ g); (have G6 := set3_grown (w := w6) (B := w.heap.size) (u0 := .int .i64 rl) (u1 := .int .i64 rr) (u2 := .slice a9 n9 c9)); (have QF := Lib.hid (set3_new (u0 := .int .i64 rl) (u1 := .int .i64 rr) (u2 := .slice a9 n9 c9) p5)); (have RF := Lib.hid (show RdM _ ⟨rl, rr, rls⟩ (.slice a9 n9 c9) from ⟨rdt_three p5 G6 R6.l, R6.b⟩)); (have BF := Lib.hid (below_grownN (chain BW (chain B9 BQ)) G6 (chain BW (chain B9 BQ)).size (fun q e => by injection e with e; omega))); (clear d0 d1 d2 df e0 e1 e2 ef g R6 G6); (obtain ⟨d0, d1, d2, df⟩ := block_cells3 p5); (obtain ⟨e0, e1, e2, ef⟩ := block_cells3 q8))
                exact ⟨⟨k + 1, ⟨rl, rr, rls⟩, a9, n9, c9, by omega, by omega, by push_cast; rfl, QF.out, RF.out, HI2, HL2, BF.out⟩, by simp [intOf]; omega⟩
              · rw [decide_eq_false hs] at h1
                subst h1
                have hll : ¬ (low < rl) := by simpa using h2.symm
                clear h2
                go_wp2_with ((with_reducible refine (MAY.out _ BQ).mono ?_); rintro e w6 ⟨rfl, g⟩; (replace p5 := (g.block _ (lt_of_block p5)).trans p5); (replace q8 := (g.block _ (lt_of_block q8)).trans q8); (have R6 := RQ.below g (Nat.le_refl _)); (replace BQ := chain BQ g); (have G6 := set3_grown (w := w6) (B := w.heap.size) (u0 := .int .i64 rl) (u1 := .int .i64 rr) (u2 := .slice a9 n9 c9)); (have QF := Lib.hid (set3_new (u0 := .int .i64 rl) (u1 := .int .i64 rr) (u2 := .slice a9 n9 c9) p5)); (have RF := Lib.hid (show RdM _ ⟨rl, rr, rls⟩ (.slice a9 n9 c9) from ⟨rdt_three p5 G6 R6.l, R6.b⟩)); (have BF := Lib.hid (below_grownN (chain BW (chain B9 BQ)) G6 (chain BW (chain B9 BQ)).size (fun q e => by injection e with e; omega))); (clear d0 d1 d2 df e0 e1 e2 ef g R6 G6); (obtain ⟨d0, d1, d2, df⟩ := block_cells3 p5); (obtain ⟨e0, e1, e2, ef⟩ := block_cells3 q8))
                exact ⟨⟨k + 1, ⟨rl, rr, rls⟩, a9, n9, c9, by omega, by omega, by push_cast; rfl, QF.out, RF.out, HI2, HL2, BF.out⟩, by simp [intOf]; omega⟩
        · skip
          go_simp
          have gz := ((Below.refl wr.heap.size wr).alloc (Nat.le_refl _) (.cells #[.int .i64 0, .int .i64 0, .slice none 0 0] 24)).drew
          have hS2 := And.intro ((gz.block _ (lt_of_block hS.1)).trans hS.1) (And.intro ((gz.cell (p := ⟨pb, po + k * 3, none⟩) hpw).trans hS.2.1) (And.intro ((gz.cell (p := ⟨pb, po + k * 3 + 1, none⟩) hpw).trans hS.2.2.1) ((gz.cell (p := ⟨pb, po + k * 3 + 2, none⟩) hpw).trans hS.2.2.2)))
          refine hK _ _ ⟨hS2, ?_⟩
          clear hK K hS
          have hS := hS2
          have bwB := gz
          have hpw2 : pb < ((wr.alloc (.cells #[.int .i64 0, .int .i64 0, .slice none 0 0] 24)).drew).heap.size := Nat.lt_of_lt_of_le hpw gz.size
          clear hpw
          have hpw := hpw2
          have qzB := (show ((wr.alloc (.cells #[.int .i64 0, .int .i64 0, .slice none 0 0] 24)).drew).heap[wr.heap.size]? = some (.cells #[.int .i64 0, .int .i64 0, .slice none 0 0] 24 (0, 0)) from heap_alloc_new wr (.cells #[.int .i64 0, .int .i64 0, .slice none 0 0] 24))
          clear hS2 gz hpw2
          try simp only [Act.put, List.setIfInBounds_toArray, List.set_cons_zero, List.set_cons_succ]
          refine gs_run (i := 6) rfl (by kernel_rfl) (by rfl) (fun K hK => ?_)
          go_simp
          refine (SAY.out _ bwB).mono ?_
          rintro e w2 ⟨a9, n9, c9, rfl, rd9, g⟩
          have gw := Below.trans bwB (g.mono (bwB).size)
          have hS2 := And.intro ((g.block _ (lt_of_block hS.1)).trans hS.1) (And.intro ((g.cell (p := ⟨pb, po + k * 3, none⟩) hpw).trans hS.2.1) (And.intro ((g.cell (p := ⟨pb, po + k * 3 + 1, none⟩) hpw).trans hS.2.2.1) ((g.cell (p := ⟨pb, po + k * 3 + 2, none⟩) hpw).trans hS.2.2.2)))
          have qz := (g.block _ (lt_of_block qzB)).trans qzB
          have hpw2 := Nat.lt_of_lt_of_le hpw g.size
          refine hK _ _ ⟨hS2, ?_⟩
          clear hK K hS hpw g
          have hS := hS2
          have hpw := hpw2
          clear hS2 hpw2
          try simp only [Act.put, List.setIfInBounds_toArray, List.set_cons_zero, List.set_cons_succ]
          refine gs_take (i := 7) (d := (some 26)) (v := ?_) rfl rfl (by kernel_rfl) (fun _ _ _ h => h) (by rfl) hS (fun w' hb' => ?_) ?_
          rotate_left
          · (try go_simp); (try with_reducible rfl)
          try simp only [Act.put, List.setIfInBounds_toArray, List.set_cons_zero, List.set_cons_succ]
          refine gs_take (i := 8) (d := (some 34)) (v := ?_) rfl rfl (by kernel_rfl) (fun _ _ _ h => h) (by rfl) hS (fun w' hb' => ?_) ?_
          rotate_left
          · (try go_simp); (try with_reducible rfl)
          try simp only [Act.put, List.setIfInBounds_toArray, List.set_cons_zero, List.set_cons_succ]
          refine gs_take (i := 9) (d := (some 35)) (v := ?_) rfl rfl (by kernel_rfl) (fun _ _ _ h => h) (by rfl) hS (fun w' hb' => ?_) ?_
          rotate_left
          · (try go_simp); (try with_reducible rfl)
          try simp only [Act.put, List.setIfInBounds_toArray, List.set_cons_zero, List.set_cons_succ]
          refine gs_take (i := 10) (d := (some 36)) (v := ?_) rfl rfl (by kernel_rfl) (fun _ _ _ h => h) (by rfl) hS (fun w' hb' => ?_) ?_
          rotate_left
          · (try go_simp); (try with_reducible rfl)
          try simp only [Act.put, List.setIfInBounds_toArray, List.set_cons_zero, List.set_cons_succ]
          refine gs_run (i := 12) rfl (by kernel_rfl) (by rfl) (fun K hK => ?_)
          obtain ⟨z0, z1, z2, zf⟩ := block_cells3 qz
          go_simp
          have G3 := set3_grown (w := w2) (B := wr.heap.size) (u0 := .int .i64 rl) (u1 := .int .i64 rr) (u2 := .slice a9 n9 c9)
          have hS2 := And.intro ((G3.block _ (lt_of_block hS.1) (fun e => by injection e with e; omega)).trans hS.1) (And.intro ((World.cell?_of_block (G3.block _ hpw (fun e => by injection e with e; have h8 : pb = wr.heap.size := e; omega))).trans hS.2.1) (And.intro ((World.cell?_of_block (G3.block _ hpw (fun e => by injection e with e; have h8 : pb = wr.heap.size := e; omega))).trans hS.2.2.1) ((World.cell?_of_block (G3.block _ hpw (fun e => by injection e with e; have h8 : pb = wr.heap.size := e; omega))).trans hS.2.2.2)))
          refine hK _ _ ⟨hS2, ?_⟩
          clear hK K z0 z1 z2 zf hS
          have hS := hS2
          try simp only [Act.put, List.setIfInBounds_toArray, List.set_cons_zero, List.set_cons_succ]
          refine gs_take (i := 13) (d := (some 9)) (v := ?_) rfl rfl (by kernel_rfl) (fun _ _ _ h => h) (by rfl) hS (fun w' hb' => ?_) ?_
          rotate_left
          · (try go_simp); (try with_reducible rfl)
          try simp only [Act.put, List.setIfInBounds_toArray, List.set_cons_zero, List.set_cons_succ]
          refine gs_take (i := 14) (d := (some 10)) (v := ?_) rfl rfl (by kernel_rfl) (fun _ _ _ h => h) (by rfl) hS (fun w' hb' => ?_) ?_
          rotate_left
          · (try go_simp); (try with_reducible rfl)
          try simp only [Act.put, List.setIfInBounds_toArray, List.set_cons_zero, List.set_cons_succ]
          refine gs_done (by kernel_rfl) ?_
          obtain ⟨W9, hW9⟩ : ∃ W, W = (((w2.setCell ⟨wr.heap.size, 0, none⟩ (.int .i64 rl)).setCell ⟨wr.heap.size, 1, none⟩ (.int .i64 rr)).setCell ⟨wr.heap.size, 2, none⟩ (.slice a9 n9 c9)) := ⟨_, rfl⟩
          obtain ⟨B8, hB8⟩ : ∃ B, B = wr.heap.size := ⟨_, rfl⟩
          rw [← hW9]
          rw [← hW9] at G3 hS2
          have q8 : W9.heap[B8]? = some (.cells #[.int .i64 rl, .int .i64 rr, .slice a9 n9 c9] 24 (0, 0)) := by rw [hW9, hB8]; exact set3_new qz
          have r9 : RdM W9 ⟨rl, rr, rls⟩ (.slice a9 n9 c9) := ⟨rdt_three qz G3 rd9.l, rd9.b⟩
          have bB8 : wr.heap.size ≤ B8 := by rw [hB8]; exact Nat.le_refl _
          have B9 := below_grownN gw G3 gw.size (fun q e => by injection e with e; omega)
          rw [← hB8]
          clear hW9 hB8 qz rd9 gw G3
          have hpx9 : pb < W9.heap.size := Nat.lt_of_lt_of_le hpb0 (Nat.le_trans BW.size B9.size)
          have HMW := Lib.hid (HMR.out.below B9 (Nat.le_refl _))
          have HRES := Lib.hid r9
          have Q5 := Lib.hid hS2.1
          have Q8 := Lib.hid q8
          have XA := Lib.hid hS2.2.1
          have XB := Lib.hid hS2.2.2.1
          have XC := Lib.hid hS2.2.2.2
          have hmn : mn = ml.length := by
            obtain ⟨ao', cap', e9, _⟩ := HMR.out.l
            injection e9
          subst hmn
          have hmn9 : n9 = rls.length := by
            obtain ⟨ao', cap', e9, _⟩ := HRES.out.l
            injection e9
          have hok := sayE_yes HE.out
          have hokn := sayOk_iff.1 hok.1
          have hst := say_stb HI.out HE.out
          have hlow := say_low HE.out
          have hmay := say_may HE.out
          have hinv := say_inv HI.out HE.out
          have hcn := same_cnt (key_free hok.2.2)
          rw [← HRR.out] at hlow hmay hinv
          have hn16 := fN_n hokn.1
          have hlen := inv_len (show 0 ≤ n by omega) hmay hinv.fr
          have hfb : 1 ≤ f ∧ f ≤ 5 := by have h1 := fN_cases n; have h2 := hokn.1; rw [← HF.out] at h1 h2; omega
          rw [← HF.out] at hst
          (try simp only at hst)
          (try simp only at hlow)
          (try simp only at hlen)
          (try simp only at hcn)
          have HI2 := Lib.hid hinv
          have HL2 := Lib.hid (show rls.length ≤ 64 by omega)
          have hsbl : sb = decide (low < rl) := by rw [HSB.out]; exact hlow.2
          have hsbs : sb = decide (2 * f + 1 ≤ (sameN ml ⟨a, b, c⟩ : Int) + 1) := by
            rw [HSB.out, hst, hcn]
            by_cases hh : 2 * f + 1 ≤ (cntM ml b c : Int) + 1
            · rw [if_pos hh, decide_eq_true hh]; rfl
            · rw [if_neg hh, decide_eq_false hh]; rfl
          have HSBL := Lib.hid hsbl
          have HSBS := Lib.hid hsbs
          have HLOW := Lib.hid (show low ≤ rl from hlow.1)
          have HLEN := Lib.hid (show (n9 : Int) ≤ 4 * n by rw [hmn9]; exact hlen)
          have HFB := Lib.hid hfb
          have HN16 := Lib.hid hn16
          have MAY0 := fun w' (g : Below W9.heap.size W9 w') => may_any ⟨rl, rr, rls⟩ (.slice a9 n9 c9) w' (HRES.out.below g (Nat.le_refl _))
          rw [hmay] at MAY0
          unfold mV at MAY0
          (try simp only at MAY0)
          have MAY := Lib.hid MAY0
          clear hst hlow hmay hinv hcn hok hokn hsbl hsbs hfb hn16 hlen hmn9 MAY0 hS hS2 q8 r9 hpw SAY
          have p5 := Q5.out
          obtain ⟨d0, d1, d2, df⟩ := block_cells3 p5
          go_wp2_with fail
          clear d0 d1 d2 df p5
          go_loopw [11, 12] (fun s j wr => ∃ q : Nat, q ≤ ml.length ∧ j = .int .i64 (q : Int) ∧ s = .int .i64 ((sameN (ml.take q) ⟨a, b, c⟩ : Nat) : Int) ∧ Below W9.heap.size W9 wr) (fun _ j _ => ml.length - (intOf j).toNat)
          case atStart => exact ⟨0, Nat.zero_le _, rfl, rfl, Below.refl _ _⟩
          case round =>
            obtain ⟨q, hq, rfl, rfl, BQ⟩ := hrel
            have p5 := (BQ.block _ (lt_of_block Q5.out)).trans Q5.out
            obtain ⟨d0, d1, d2, df⟩ := block_cells3 p5
            have hml64 := HML.out
            (try simp only at hml64)
            by_cases hlq : q < ml.length
            · have hql : (q : Int) < (ml.length : Int) := by omega
              obtain ⟨qb, qo, hqo, hqb, Y0, Y1, Y2⟩ := rdt_cells HMW.out.l q hlq
              subst hqo
              have HUP0 := same_up (x := ⟨a, b, c⟩) hlq
              have hsl := same_le (ml.take q) ⟨a, b, c⟩
              rw [List.length_take] at hsl
              obtain ⟨y, hy⟩ : ∃ y, y = ml[q] := ⟨_, rfl⟩
              simp only [← hy] at Y0 Y1 Y2 HUP0
              obtain ⟨y1v, y2v, y3v⟩ := y
              unfold sameF at HUP0
              simp only at Y0 Y1 Y2 HUP0
              have HUP := Lib.hid HUP0
              replace Y0 := (BQ.cell (p := ⟨qb, qo + q * 3, none⟩) hqb).trans Y0
              replace Y1 := (BQ.cell (p := ⟨qb, qo + q * 3 + 1, none⟩) hqb).trans Y1
              replace Y2 := (BQ.cell (p := ⟨qb, qo + q * 3 + 2, none⟩) hqb).trans Y2
              have X0 := (BQ.cell (p := ⟨pb, po + k * 3, none⟩) hpx9).trans XA.out
              have X1 := (BQ.cell (p := ⟨pb, po + k * 3 + 1, none⟩) hpx9).trans XB.out
              have X2 := (BQ.cell (p := ⟨pb, po + k * 3 + 2, none⟩) hpx9).trans XC.out
              have hqx := Nat.lt_of_lt_of_le hqb BQ.size
              have hpx := Nat.lt_of_lt_of_le hpx9 BQ.size
              clear hy HUP0
              by_cases e1 : y2v = b
              · have g1 : (y2v == b) = true := by simpa using e1
                by_cases e2 : y3v = c
                · have g2 : (y3v == c) = true := by simpa using e2
                  by_cases e3 : y1v = a
                  · have g3 : (y1v == a) = true := by simpa using e3
                    have g3' : (y1v != a) = false := by simpa using e3
                    have HU := Lib.hid (show sameN (ml.take (q + 1)) ⟨a, b, c⟩ = sameN (ml.take q) ⟨a, b, c⟩ by rw [HUP.out, decide_eq_true e1, decide_eq_true e2, decide_eq_false (not_not_intro e3)]; rfl)
                    clear e1 e2 e3
                    go_wp2_with fail
                    clear d0 d1 d2 df
                    replace p5 := show wr.drew.heap[w.heap.size]? = _ from p5
                    replace X0 := show wr.drew.cell? _ = _ from X0
                    replace X1 := show wr.drew.cell? _ = _ from X1
                    replace X2 := show wr.drew.cell? _ = _ from X2
                    replace Y0 := show wr.drew.cell? _ = _ from Y0
                    replace Y1 := show wr.drew.cell? _ = _ from Y1
                    replace Y2 := show wr.drew.cell? _ = _ from Y2
                    replace hpx := show pb < wr.drew.heap.size from hpx
                    replace hqx := show qb < wr.drew.heap.size from hqx
                    refine g_start (by kernel_rfl) ?_
                    refine g_take (i := 0) (d := (some 46)) (v := ?_) rfl rfl (by kernel_rfl) (fun _ _ _ h => h) (by rfl) (fun w' hb' => ?_) ?_
                    rotate_left
                    · (try go_simp); (try with_reducible rfl)
                    try simp only [Act.put, List.setIfInBounds_toArray, List.set_cons_zero, List.set_cons_succ]
                    refine g_take (i := 1) (d := (some 47)) (v := ?_) rfl rfl (by kernel_rfl) (fun _ _ _ h => h) (by rfl) (fun w' hb' => ?_) ?_
                    rotate_left
                    · obtain ⟨d0, d1, d2, df⟩ := block_cells3 ((hb'.block _ (lt_of_block p5)).trans p5); (try go_simp); (try with_reducible rfl)
                    try simp only [Act.put, List.setIfInBounds_toArray, List.set_cons_zero, List.set_cons_succ]
                    refine g_take (i := 2) (d := (some 48)) (v := ?_) rfl rfl (by kernel_rfl) (fun _ _ _ h => h) (by rfl) (fun w' hb' => ?_) ?_
                    rotate_left
                    · (try go_simp); (try with_reducible rfl)
                    try simp only [Act.put, List.setIfInBounds_toArray, List.set_cons_zero, List.set_cons_succ]
                    refine g_take (i := 3) (d := (some 49)) (v := ?_) rfl rfl (by kernel_rfl) (fun _ _ _ h => h) (by rfl) (fun w' hb' => ?_) ?_
                    rotate_left
                    · (try go_simp); (try with_reducible rfl)
                    try simp only [Act.put, List.setIfInBounds_toArray, List.set_cons_zero, List.set_cons_succ]
                    refine g_take (i := 4) (d := (some 50)) (v := ?_) rfl rfl (by kernel_rfl) (fun _ _ _ h => h) (by rfl) (fun w' hb' => ?_) ?_
                    rotate_left
                    · (try go_simp); (try with_reducible rfl)
                    try simp only [Act.put, List.setIfInBounds_toArray, List.set_cons_zero, List.set_cons_succ]
                    refine g_take (i := 5) (d := (some 51)) (v := ?_) rfl rfl (by kernel_rfl) (fun _ _ _ h => h) (by rfl) (fun w' hb' => ?_) ?_
                    rotate_left
                    · have y1 := (hb'.cell (p := ⟨qb, qo + q * 3 + 1, none⟩) hqx).trans Y1; (try go_simp); (try with_reducible rfl)
                    try simp only [Act.put, List.setIfInBounds_toArray, List.set_cons_zero, List.set_cons_succ]
                    refine g_take (i := 6) (d := (some 52)) (v := ?_) rfl rfl (by kernel_rfl) (fun _ _ _ h => h) (by rfl) (fun w' hb' => ?_) ?_
                    rotate_left
                    · (try go_simp); (try with_reducible rfl)
                    try simp only [Act.put, List.setIfInBounds_toArray, List.set_cons_zero, List.set_cons_succ]
                    refine g_take (i := 7) (d := (some 53)) (v := ?_) rfl rfl (by kernel_rfl) (fun _ _ _ h => h) (by rfl) (fun w' hb' => ?_) ?_
                    rotate_left
                    · (try go_simp); (try with_reducible rfl)
                    try simp only [Act.put, List.setIfInBounds_toArray, List.set_cons_zero, List.set_cons_succ]
                    refine g_take (i := 8) (d := (some 54)) (v := ?_) rfl rfl (by kernel_rfl) (fun _ _ _ h => h) (by rfl) (fun w' hb' => ?_) ?_
                    rotate_left
                    · (try go_simp); (try with_reducible rfl)
                    try simp only [Act.put, List.setIfInBounds_toArray, List.set_cons_zero, List.set_cons_succ]
                    refine g_take (i := 9) (d := (some 55)) (v := ?_) rfl rfl (by kernel_rfl) (fun _ _ _ h => h) (by rfl) (fun w' hb' => ?_) ?_
                    rotate_left
                    · (try go_simp); (try with_reducible rfl)
                    try simp only [Act.put, List.setIfInBounds_toArray, List.set_cons_zero, List.set_cons_succ]
                    refine g_take (i := 10) (d := (some 56)) (v := ?_) rfl rfl (by kernel_rfl) (fun _ _ _ h => h) (by rfl) (fun w' hb' => ?_) ?_
                    rotate_left
                    · have x1 := (hb'.cell (p := ⟨pb, po + k * 3 + 1, none⟩) hpx).trans X1; (try go_simp); (try with_reducible rfl)
                    try simp only [Act.put, List.setIfInBounds_toArray, List.set_cons_zero, List.set_cons_succ]
                    refine g_take (i := 11) (d := (some 57)) (v := ?_) rfl rfl (by kernel_rfl) (fun _ _ _ h => h) (by rfl) (fun w' hb' => ?_) ?_
                    rotate_left
                    · (try go_simp); (try with_reducible rfl)
                    try simp only [Act.put, List.setIfInBounds_toArray, List.set_cons_zero, List.set_cons_succ]
                    refine g_take (i := 12) (d := (some 58)) (v := ?_) rfl rfl (by kernel_rfl) (fun _ _ _ h => h) (by rfl) (fun w' hb' => ?_) ?_
                    rotate_left
                    · (try go_simp); (try with_reducible rfl)
                    try simp only [Act.put, List.setIfInBounds_toArray, List.set_cons_zero, List.set_cons_succ]
                    refine g_take (i := 13) (d := (some 59)) (v := ?_) rfl rfl (by kernel_rfl) (fun _ _ _ h => h) (by rfl) (fun w' hb' => ?_) ?_
                    rotate_left
                    · (try go_simp); (try with_reducible rfl)
                    try simp only [Act.put, List.setIfInBounds_toArray, List.set_cons_zero, List.set_cons_succ]
                    refine g_take (i := 14) (d := (some 60)) (v := ?_) rfl rfl (by kernel_rfl) (fun _ _ _ h => h) (by rfl) (fun w' hb' => ?_) ?_
                    rotate_left
                    · obtain ⟨d0, d1, d2, df⟩ := block_cells3 ((hb'.block _ (lt_of_block p5)).trans p5); (try go_simp); (try with_reducible rfl)
                    try simp only [Act.put, List.setIfInBounds_toArray, List.set_cons_zero, List.set_cons_succ]
                    refine g_take (i := 15) (d := (some 61)) (v := ?_) rfl rfl (by kernel_rfl) (fun _ _ _ h => h) (by rfl) (fun w' hb' => ?_) ?_
                    rotate_left
                    · (try go_simp); (try with_reducible rfl)
                    try simp only [Act.put, List.setIfInBounds_toArray, List.set_cons_zero, List.set_cons_succ]
                    refine g_take (i := 16) (d := (some 62)) (v := ?_) rfl rfl (by kernel_rfl) (fun _ _ _ h => h) (by rfl) (fun w' hb' => ?_) ?_
                    rotate_left
                    · (try go_simp); (try with_reducible rfl)
                    try simp only [Act.put, List.setIfInBounds_toArray, List.set_cons_zero, List.set_cons_succ]
                    refine g_take (i := 17) (d := (some 63)) (v := ?_) rfl rfl (by kernel_rfl) (fun _ _ _ h => h) (by rfl) (fun w' hb' => ?_) ?_
                    rotate_left
                    · (try go_simp); (try with_reducible rfl)
                    try simp only [Act.put, List.setIfInBounds_toArray, List.set_cons_zero, List.set_cons_succ]
                    refine g_take (i := 18) (d := (some 64)) (v := ?_) rfl rfl (by kernel_rfl) (fun _ _ _ h => h) (by rfl) (fun w' hb' => ?_) ?_
                    rotate_left
                    · have y2 := (hb'.cell (p := ⟨qb, qo + q * 3 + 2, none⟩) hqx).trans Y2; (try go_simp); (try with_reducible rfl)
                    try simp only [Act.put, List.setIfInBounds_toArray, List.set_cons_zero, List.set_cons_succ]
                    refine g_take (i := 19) (d := (some 65)) (v := ?_) rfl rfl (by kernel_rfl) (fun _ _ _ h => h) (by rfl) (fun w' hb' => ?_) ?_
                    rotate_left
                    · (try go_simp); (try with_reducible rfl)
                    try simp only [Act.put, List.setIfInBounds_toArray, List.set_cons_zero, List.set_cons_succ]
                    refine g_take (i := 20) (d := (some 66)) (v := ?_) rfl rfl (by kernel_rfl) (fun _ _ _ h => h) (by rfl) (fun w' hb' => ?_) ?_
                    rotate_left
                    · (try go_simp); (try with_reducible rfl)
                    try simp only [Act.put, List.setIfInBounds_toArray, List.set_cons_zero, List.set_cons_succ]
                    refine g_take (i := 21) (d := (some 67)) (v := ?_) rfl rfl (by kernel_rfl) (fun _ _ _ h => h) (by rfl) (fun w' hb' => ?_) ?_
                    rotate_left
                    · (try go_simp); (try with_reducible rfl)
                    try simp only [Act.put, List.setIfInBounds_toArray, List.set_cons_zero, List.set_cons_succ]
                    refine g_take (i := 22) (d := (some 68)) (v := ?_) rfl rfl (by kernel_rfl) (fun _ _ _ h => h) (by rfl) (fun w' hb' => ?_) ?_
                    rotate_left
                    · (try go_simp); (try with_reducible rfl)
                    try simp only [Act.put, List.setIfInBounds_toArray, List.set_cons_zero, List.set_cons_succ]
                    refine g_take (i := 23) (d := (some 69)) (v := ?_) rfl rfl (by kernel_rfl) (fun _ _ _ h => h) (by rfl) (fun w' hb' => ?_) ?_
                    rotate_left
                    · have x2 := (hb'.cell (p := ⟨pb, po + k * 3 + 2, none⟩) hpx).trans X2; (try go_simp); (try with_reducible rfl)
                    try simp only [Act.put, List.setIfInBounds_toArray, List.set_cons_zero, List.set_cons_succ]
                    refine g_take (i := 24) (d := (some 70)) (v := ?_) rfl rfl (by kernel_rfl) (fun _ _ _ h => h) (by rfl) (fun w' hb' => ?_) ?_
                    rotate_left
                    · (try go_simp); (try with_reducible rfl)
                    try simp only [Act.put, List.setIfInBounds_toArray, List.set_cons_zero, List.set_cons_succ]
                    refine g_take (i := 25) (d := (some 71)) (v := ?_) rfl rfl (by kernel_rfl) (fun _ _ _ h => h) (by rfl) (fun w' hb' => ?_) ?_
                    rotate_left
                    · (try go_simp); (try with_reducible rfl)
                    try simp only [Act.put, List.setIfInBounds_toArray, List.set_cons_zero, List.set_cons_succ]
                    refine g_take (i := 26) (d := (some 72)) (v := ?_) rfl rfl (by kernel_rfl) (fun _ _ _ h => h) (by rfl) (fun w' hb' => ?_) ?_
                    rotate_left
                    · (try go_simp); (try with_reducible rfl)
                    try simp only [Act.put, List.setIfInBounds_toArray, List.set_cons_zero, List.set_cons_succ]
                    refine g_take (i := 27) (d := (some 73)) (v := ?_) rfl rfl (by kernel_rfl) (fun _ _ _ h => h) (by rfl) (fun w' hb' => ?_) ?_
                    rotate_left
                    · (try go_simp); (try with_reducible rfl)
                    try simp only [Act.put, List.setIfInBounds_toArray, List.set_cons_zero, List.set_cons_succ]
                    refine g_take (i := 28) (d := (some 74)) (v := ?_) rfl rfl (by kernel_rfl) (fun _ _ _ h => h) (by rfl) (fun w' hb' => ?_) ?_
                    rotate_left
                    · obtain ⟨d0, d1, d2, df⟩ := block_cells3 ((hb'.block _ (lt_of_block p5)).trans p5); (try go_simp); (try with_reducible rfl)
                    try simp only [Act.put, List.setIfInBounds_toArray, List.set_cons_zero, List.set_cons_succ]
                    refine g_take (i := 29) (d := (some 75)) (v := ?_) rfl rfl (by kernel_rfl) (fun _ _ _ h => h) (by rfl) (fun w' hb' => ?_) ?_
                    rotate_left
                    · (try go_simp); (try with_reducible rfl)
                    try simp only [Act.put, List.setIfInBounds_toArray, List.set_cons_zero, List.set_cons_succ]
                    refine g_take (i := 30) (d := (some 76)) (v := ?_) rfl rfl (by kernel_rfl) (fun _ _ _ h => h) (by rfl) (fun w' hb' => ?_) ?_
                    rotate_left
                    · (try go_simp); (try with_reducible rfl)
                    try simp only [Act.put, List.setIfInBounds_toArray, List.set_cons_zero, List.set_cons_succ]
                    refine g_take (i := 31) (d := (some 77)) (v := ?_) rfl rfl (by kernel_rfl) (fun _ _ _ h => h) (by rfl) (fun w' hb' => ?_) ?_
                    rotate_left
                    · (try go_simp); (try with_reducible rfl)
                    try simp only [Act.put, List.setIfInBounds_toArray, List.set_cons_zero, List.set_cons_succ]
                    refine g_take (i := 32) (d := (some 78)) (v := ?_) rfl rfl (by kernel_rfl) (fun _ _ _ h => h) (by rfl) (fun w' hb' => ?_) ?_
                    rotate_left
                    · have y0 := (hb'.cell (p := ⟨qb, qo + q * 3, none⟩) hqx).trans Y0; (try go_simp); (try with_reducible rfl)
                    try simp only [Act.put, List.setIfInBounds_toArray, List.set_cons_zero, List.set_cons_succ]
                    refine g_take (i := 33) (d := (some 79)) (v := ?_) rfl rfl (by kernel_rfl) (fun _ _ _ h => h) (by rfl) (fun w' hb' => ?_) ?_
                    rotate_left
                    · (try go_simp); (try with_reducible rfl)
                    try simp only [Act.put, List.setIfInBounds_toArray, List.set_cons_zero, List.set_cons_succ]
                    refine g_take (i := 34) (d := (some 80)) (v := ?_) rfl rfl (by kernel_rfl) (fun _ _ _ h => h) (by rfl) (fun w' hb' => ?_) ?_
                    rotate_left
                    · (try go_simp); (try with_reducible rfl)
                    try simp only [Act.put, List.setIfInBounds_toArray, List.set_cons_zero, List.set_cons_succ]
                    refine g_take (i := 35) (d := (some 81)) (v := ?_) rfl rfl (by kernel_rfl) (fun _ _ _ h => h) (by rfl) (fun w' hb' => ?_) ?_
                    rotate_left
                    · (try go_simp); (try with_reducible rfl)
                    try simp only [Act.put, List.setIfInBounds_toArray, List.set_cons_zero, List.set_cons_succ]
                    refine g_take (i := 36) (d := (some 82)) (v := ?_) rfl rfl (by kernel_rfl) (fun _ _ _ h => h) (by rfl) (fun w' hb' => ?_) ?_
                    rotate_left
                    · (try go_simp); (try with_reducible rfl)
                    try simp only [Act.put, List.setIfInBounds_toArray, List.set_cons_zero, List.set_cons_succ]
                    refine g_take (i := 37) (d := (some 83)) (v := ?_) rfl rfl (by kernel_rfl) (fun _ _ _ h => h) (by rfl) (fun w' hb' => ?_) ?_
                    rotate_left
                    · have x0 := (hb'.cell (p := ⟨pb, po + k * 3, none⟩) hpx).trans X0; (try go_simp); (try with_reducible rfl)
                    try simp only [Act.put, List.setIfInBounds_toArray, List.set_cons_zero, List.set_cons_succ]
                    refine g_take (i := 38) (d := (some 84)) (v := ?_) rfl rfl (by kernel_rfl) (fun _ _ _ h => h) (by rfl) (fun w' hb' => ?_) ?_
                    rotate_left
                    · (try go_simp); (try with_reducible rfl)
                    try simp only [Act.put, List.setIfInBounds_toArray, List.set_cons_zero, List.set_cons_succ]
                    refine g_take (i := 39) (d := (some 85)) (v := ?_) rfl rfl (by kernel_rfl) (fun _ _ _ h => h) (by rfl) (fun w' hb' => ?_) ?_
                    rotate_left
                    · (try go_simp); (try with_reducible rfl)
                    try simp only [Act.put, List.setIfInBounds_toArray, List.set_cons_zero, List.set_cons_succ]
                    refine g_done (by kernel_rfl) ?_
                    go_wp2_with fail
                    exact ⟨⟨q + 1, by omega, by push_cast; rfl, by rw [HU.out], BQ.drew⟩, by simp [intOf]; omega⟩
                  · have g3 : (y1v == a) = false := by simpa using e3
                    have g3' : (y1v != a) = true := by simpa using e3
                    have HU := Lib.hid (show sameN (ml.take (q + 1)) ⟨a, b, c⟩ = sameN (ml.take q) ⟨a, b, c⟩ + 1 by rw [HUP.out, decide_eq_true e1, decide_eq_true e2, decide_eq_true e3]; rfl)
                    clear e1 e2 e3
                    go_wp2_with fail
                    clear d0 d1 d2 df
                    replace p5 := show wr.drew.heap[w.heap.size]? = _ from p5
                    replace X0 := show wr.drew.cell? _ = _ from X0
                    replace X1 := show wr.drew.cell? _ = _ from X1
                    replace X2 := show wr.drew.cell? _ = _ from X2
                    replace Y0 := show wr.drew.cell? _ = _ from Y0
                    replace Y1 := show wr.drew.cell? _ = _ from Y1
                    replace Y2 := show wr.drew.cell? _ = _ from Y2
                    replace hpx := show pb < wr.drew.heap.size from hpx
                    replace hqx := show qb < wr.drew.heap.size from hqx
                    refine g_start (by kernel_rfl) ?_
                    refine g_take (i := 0) (d := (some 46)) (v := ?_) rfl rfl (by kernel_rfl) (fun _ _ _ h => h) (by rfl) (fun w' hb' => ?_) ?_
                    rotate_left
                    · (try go_simp); (try with_reducible rfl)
                    try simp only [Act.put, List.setIfInBounds_toArray, List.set_cons_zero, List.set_cons_succ]
                    refine g_take (i := 1) (d := (some 47)) (v := ?_) rfl rfl (by kernel_rfl) (fun _ _ _ h => h) (by rfl) (fun w' hb' => ?_) ?_
                    rotate_left
                    · obtain ⟨d0, d1, d2, df⟩ := block_cells3 ((hb'.block _ (lt_of_block p5)).trans p5); (try go_simp); (try with_reducible rfl)
                    try simp only [Act.put, List.setIfInBounds_toArray, List.set_cons_zero, List.set_cons_succ]
                    refine g_take (i := 2) (d := (some 48)) (v := ?_) rfl rfl (by kernel_rfl) (fun _ _ _ h => h) (by rfl) (fun w' hb' => ?_) ?_
                    rotate_left
                    · (try go_simp); (try with_reducible rfl)
                    try simp only [Act.put, List.setIfInBounds_toArray, List.set_cons_zero, List.set_cons_succ]
                    refine g_take (i := 3) (d := (some 49)) (v := ?_) rfl rfl (by kernel_rfl) (fun _ _ _ h => h) (by rfl) (fun w' hb' => ?_) ?_
                    rotate_left
                    · (try go_simp); (try with_reducible rfl)
                    try simp only [Act.put, List.setIfInBounds_toArray, List.set_cons_zero, List.set_cons_succ]
                    refine g_take (i := 4) (d := (some 50)) (v := ?_) rfl rfl (by kernel_rfl) (fun _ _ _ h => h) (by rfl) (fun w' hb' => ?_) ?_
                    rotate_left
                    · (try go_simp); (try with_reducible rfl)
                    try simp only [Act.put, List.setIfInBounds_toArray, List.set_cons_zero, List.set_cons_succ]
                    refine g_take (i := 5) (d := (some 51)) (v := ?_) rfl rfl (by kernel_rfl) (fun _ _ _ h => h) (by rfl) (fun w' hb' => ?_) ?_
                    rotate_left
                    · have y1 := (hb'.cell (p := ⟨qb, qo + q * 3 + 1, none⟩) hqx).trans Y1; (try go_simp); (try with_reducible rfl)
                    try simp only [Act.put, List.setIfInBounds_toArray, List.set_cons_zero, List.set_cons_succ]
                    refine g_take (i := 6) (d := (some 52)) (v := ?_) rfl rfl (by kernel_rfl) (fun _ _ _ h => h) (by rfl) (fun w' hb' => ?_) ?_
                    rotate_left
                    · (try go_simp); (try with_reducible rfl)
                    try simp only [Act.put, List.setIfInBounds_toArray, List.set_cons_zero, List.set_cons_succ]
                    refine g_take (i := 7) (d := (some 53)) (v := ?_) rfl rfl (by kernel_rfl) (fun _ _ _ h => h) (by rfl) (fun w' hb' => ?_) ?_
                    rotate_left
                    · (try go_simp); (try with_reducible rfl)
                    try simp only [Act.put, List.setIfInBounds_toArray, List.set_cons_zero, List.set_cons_succ]
                    refine g_take (i := 8) (d := (some 54)) (v := ?_) rfl rfl (by kernel_rfl) (fun _ _ _ h => h) (by rfl) (fun w' hb' => ?_) ?_
                    rotate_left
                    · (try go_simp); (try with_reducible rfl)
                    try simp only [Act.put, List.setIfInBounds_toArray, List.set_cons_zero, List.set_cons_succ]
                    refine g_take (i := 9) (d := (some 55)) (v := ?_) rfl rfl (by kernel_rfl) (fun _ _ _ h => h) (by rfl) (fun w' hb' => ?_) ?_
                    rotate_left
                    · (try go_simp); (try with_reducible rfl)
                    try simp only [Act.put, List.setIfInBounds_toArray, List.set_cons_zero, List.set_cons_succ]
                    refine g_take (i := 10) (d := (some 56)) (v := ?_) rfl rfl (by kernel_rfl) (fun _ _ _ h => h) (by rfl) (fun w' hb' => ?_) ?_
                    rotate_left
                    · have x1 := (hb'.cell (p := ⟨pb, po + k * 3 + 1, none⟩) hpx).trans X1; (try go_simp); (try with_reducible rfl)
                    try simp only [Act.put, List.setIfInBounds_toArray, List.set_cons_zero, List.set_cons_succ]
                    refine g_take (i := 11) (d := (some 57)) (v := ?_) rfl rfl (by kernel_rfl) (fun _ _ _ h => h) (by rfl) (fun w' hb' => ?_) ?_
                    rotate_left
                    · (try go_simp); (try with_reducible rfl)
                    try simp only [Act.put, List.setIfInBounds_toArray, List.set_cons_zero, List.set_cons_succ]
                    refine g_take (i := 12) (d := (some 58)) (v := ?_) rfl rfl (by kernel_rfl) (fun _ _ _ h => h) (by rfl) (fun w' hb' => ?_) ?_
                    rotate_left
                    · (try go_simp); (try with_reducible rfl)
                    try simp only [Act.put, List.setIfInBounds_toArray, List.set_cons_zero, List.set_cons_succ]
                    refine g_take (i := 13) (d := (some 59)) (v := ?_) rfl rfl (by kernel_rfl) (fun _ _ _ h => h) (by rfl) (fun w' hb' => ?_) ?_
                    rotate_left
                    · (try go_simp); (try with_reducible rfl)
                    try simp only [Act.put, List.setIfInBounds_toArray, List.set_cons_zero, List.set_cons_succ]
                    refine g_take (i := 14) (d := (some 60)) (v := ?_) rfl rfl (by kernel_rfl) (fun _ _ _ h => h) (by rfl) (fun w' hb' => ?_) ?_
                    rotate_left
                    · obtain ⟨d0, d1, d2, df⟩ := block_cells3 ((hb'.block _ (lt_of_block p5)).trans p5); (try go_simp); (try with_reducible rfl)
                    try simp only [Act.put, List.setIfInBounds_toArray, List.set_cons_zero, List.set_cons_succ]
                    refine g_take (i := 15) (d := (some 61)) (v := ?_) rfl rfl (by kernel_rfl) (fun _ _ _ h => h) (by rfl) (fun w' hb' => ?_) ?_
                    rotate_left
                    · (try go_simp); (try with_reducible rfl)
                    try simp only [Act.put, List.setIfInBounds_toArray, List.set_cons_zero, List.set_cons_succ]
                    refine g_take (i := 16) (d := (some 62)) (v := ?_) rfl rfl (by kernel_rfl) (fun _ _ _ h => h) (by rfl) (fun w' hb' => ?_) ?_
                    rotate_left
                    · (try go_simp); (try with_reducible rfl)
                    try simp only [Act.put, List.setIfInBounds_toArray, List.set_cons_zero, List.set_cons_succ]
                    refine g_take (i := 17) (d := (some 63)) (v := ?_) rfl rfl (by kernel_rfl) (fun _ _ _ h => h) (by rfl) (fun w' hb' => ?_) ?_
                    rotate_left
                    · (try go_simp); (try with_reducible rfl)
                    try simp only [Act.put, List.setIfInBounds_toArray, List.set_cons_zero, List.set_cons_succ]
                    refine g_take (i := 18) (d := (some 64)) (v := ?_) rfl rfl (by kernel_rfl) (fun _ _ _ h => h) (by rfl) (fun w' hb' => ?_) ?_
                    rotate_left
                    · have y2 := (hb'.cell (p := ⟨qb, qo + q * 3 + 2, none⟩) hqx).trans Y2; (try go_simp); (try with_reducible rfl)
                    try simp only [Act.put, List.setIfInBounds_toArray, List.set_cons_zero, List.set_cons_succ]
                    refine g_take (i := 19) (d := (some 65)) (v := ?_) rfl rfl (by kernel_rfl) (fun _ _ _ h => h) (by rfl) (fun w' hb' => ?_) ?_
                    rotate_left
                    · (try go_simp); (try with_reducible rfl)
                    try simp only [Act.put, List.setIfInBounds_toArray, List.set_cons_zero, List.set_cons_succ]
                    refine g_take (i := 20) (d := (some 66)) (v := ?_) rfl rfl (by kernel_rfl) (fun _ _ _ h => h) (by rfl) (fun w' hb' => ?_) ?_
                    rotate_left
                    · (try go_simp); (try with_reducible rfl)
                    try simp only [Act.put, List.setIfInBounds_toArray, List.set_cons_zero, List.set_cons_succ]
                    refine g_take (i := 21) (d := (some 67)) (v := ?_) rfl rfl (by kernel_rfl) (fun _ _ _ h => h) (by rfl) (fun w' hb' => ?_) ?_
                    rotate_left
                    · (try go_simp); (try with_reducible rfl)
                    try simp only [Act.put, List.setIfInBounds_toArray, List.set_cons_zero, List.set_cons_succ]
                    refine g_take (i := 22) (d := (some 68)) (v := ?_) rfl rfl (by kernel_rfl) (fun _ _ _ h => h) (by rfl) (fun w' hb' => ?_) ?_
                    rotate_left
                    · (try go_simp); (try with_reducible rfl)
                    try simp only [Act.put, List.setIfInBounds_toArray, List.set_cons_zero, List.set_cons_succ]
                    refine g_take (i := 23) (d := (some 69)) (v := ?_) rfl rfl (by kernel_rfl) (fun _ _ _ h => h) (by rfl) (fun w' hb' => ?_) ?_
                    rotate_left
                    · have x2 := (hb'.cell (p := ⟨pb, po + k * 3 + 2, none⟩) hpx).trans X2; (try go_simp); (try with_reducible rfl)
                    try simp only [Act.put, List.setIfInBounds_toArray, List.set_cons_zero, List.set_cons_succ]
                    refine g_take (i := 24) (d := (some 70)) (v := ?_) rfl rfl (by kernel_rfl) (fun _ _ _ h => h) (by rfl) (fun w' hb' => ?_) ?_
                    rotate_left
                    · (try go_simp); (try with_reducible rfl)
                    try simp only [Act.put, List.setIfInBounds_toArray, List.set_cons_zero, List.set_cons_succ]
                    refine g_take (i := 25) (d := (some 71)) (v := ?_) rfl rfl (by kernel_rfl) (fun _ _ _ h => h) (by rfl) (fun w' hb' => ?_) ?_
                    rotate_left
                    · (try go_simp); (try with_reducible rfl)
                    try simp only [Act.put, List.setIfInBounds_toArray, List.set_cons_zero, List.set_cons_succ]
                    refine g_take (i := 26) (d := (some 72)) (v := ?_) rfl rfl (by kernel_rfl) (fun _ _ _ h => h) (by rfl) (fun w' hb' => ?_) ?_
                    rotate_left
                    · (try go_simp); (try with_reducible rfl)
                    try simp only [Act.put, List.setIfInBounds_toArray, List.set_cons_zero, List.set_cons_succ]
                    refine g_take (i := 27) (d := (some 73)) (v := ?_) rfl rfl (by kernel_rfl) (fun _ _ _ h => h) (by rfl) (fun w' hb' => ?_) ?_
                    rotate_left
                    · (try go_simp); (try with_reducible rfl)
                    try simp only [Act.put, List.setIfInBounds_toArray, List.set_cons_zero, List.set_cons_succ]
                    refine g_take (i := 28) (d := (some 74)) (v := ?_) rfl rfl (by kernel_rfl) (fun _ _ _ h => h) (by rfl) (fun w' hb' => ?_) ?_
                    rotate_left
                    · obtain ⟨d0, d1, d2, df⟩ := block_cells3 ((hb'.block _ (lt_of_block p5)).trans p5); (try go_simp); (try with_reducible rfl)
                    try simp only [Act.put, List.setIfInBounds_toArray, List.set_cons_zero, List.set_cons_succ]
                    refine g_take (i := 29) (d := (some 75)) (v := ?_) rfl rfl (by kernel_rfl) (fun _ _ _ h => h) (by rfl) (fun w' hb' => ?_) ?_
                    rotate_left
                    · (try go_simp); (try with_reducible rfl)
                    try simp only [Act.put, List.setIfInBounds_toArray, List.set_cons_zero, List.set_cons_succ]
                    refine g_take (i := 30) (d := (some 76)) (v := ?_) rfl rfl (by kernel_rfl) (fun _ _ _ h => h) (by rfl) (fun w' hb' => ?_) ?_
                    rotate_left
                    · (try go_simp); (try with_reducible rfl)
                    try simp only [Act.put, List.setIfInBounds_toArray, List.set_cons_zero, List.set_cons_succ]
                    refine g_take (i := 31) (d := (some 77)) (v := ?_) rfl rfl (by kernel_rfl) (fun _ _ _ h => h) (by rfl) (fun w' hb' => ?_) ?_
                    rotate_left
                    · (try go_simp); (try with_reducible rfl)
                    try simp only [Act.put, List.setIfInBounds_toArray, List.set_cons_zero, List.set_cons_succ]
                    refine g_take (i := 32) (d := (some 78)) (v := ?_) rfl rfl (by kernel_rfl) (fun _ _ _ h => h) (by rfl) (fun w' hb' => ?_) ?_
                    rotate_left
                    · have y0 := (hb'.cell (p := ⟨qb, qo + q * 3, none⟩) hqx).trans Y0; (try go_simp); (try with_reducible rfl)
                    try simp only [Act.put, List.setIfInBounds_toArray, List.set_cons_zero, List.set_cons_succ]
                    refine g_take (i := 33) (d := (some 79)) (v := ?_) rfl rfl (by kernel_rfl) (fun _ _ _ h => h) (by rfl) (fun w' hb' => ?_) ?_
                    rotate_left
                    · (try go_simp); (try with_reducible rfl)
                    try simp only [Act.put, List.setIfInBounds_toArray, List.set_cons_zero, List.set_cons_succ]
                    refine g_take (i := 34) (d := (some 80)) (v := ?_) rfl rfl (by kernel_rfl) (fun _ _ _ h => h) (by rfl) (fun w' hb' => ?_) ?_
                    rotate_left
                    · (try go_simp); (try with_reducible rfl)
                    try simp only [Act.put, List.setIfInBounds_toArray, List.set_cons_zero, List.set_cons_succ]
                    refine g_take (i := 35) (d := (some 81)) (v := ?_) rfl rfl (by kernel_rfl) (fun _ _ _ h => h) (by rfl) (fun w' hb' => ?_) ?_
                    rotate_left
                    · (try go_simp); (try with_reducible rfl)
                    try simp only [Act.put, List.setIfInBounds_toArray, List.set_cons_zero, List.set_cons_succ]
                    refine g_take (i := 36) (d := (some 82)) (v := ?_) rfl rfl (by kernel_rfl) (fun _ _ _ h => h) (by rfl) (fun w' hb' => ?_) ?_
                    rotate_left
                    · (try go_simp); (try with_reducible rfl)
                    try simp only [Act.put, List.setIfInBounds_toArray, List.set_cons_zero, List.set_cons_succ]
                    refine g_take (i := 37) (d := (some 83)) (v := ?_) rfl rfl (by kernel_rfl) (fun _ _ _ h => h) (by rfl) (fun w' hb' => ?_) ?_
                    rotate_left
                    · have x0 := (hb'.cell (p := ⟨pb, po + k * 3, none⟩) hpx).trans X0; (try go_simp); (try with_reducible rfl)
                    try simp only [Act.put, List.setIfInBounds_toArray, List.set_cons_zero, List.set_cons_succ]
                    refine g_take (i := 38) (d := (some 84)) (v := ?_) rfl rfl (by kernel_rfl) (fun _ _ _ h => h) (by rfl) (fun w' hb' => ?_) ?_
                    rotate_left
                    · (try go_simp); (try with_reducible rfl)
                    try simp only [Act.put, List.setIfInBounds_toArray, List.set_cons_zero, List.set_cons_succ]
                    refine g_take (i := 39) (d := (some 85)) (v := ?_) rfl rfl (by kernel_rfl) (fun _ _ _ h => h) (by rfl) (fun w' hb' => ?_) ?_
                    rotate_left
                    · (try go_simp); (try with_reducible rfl)
                    try simp only [Act.put, List.setIfInBounds_toArray, List.set_cons_zero, List.set_cons_succ]
                    refine g_done (by kernel_rfl) ?_
                    go_wp2_with fail
                    exact ⟨⟨q + 1, by omega, by push_cast; rfl, by rw [HU.out]; push_cast; rfl, BQ.drew⟩, by simp [intOf]; omega⟩
                · have g2 : (y3v == c) = false := by simpa using e2
                  have HU := Lib.hid (show sameN (ml.take (q + 1)) ⟨a, b, c⟩ = sameN (ml.take q) ⟨a, b, c⟩ by rw [HUP.out, decide_eq_true e1, decide_eq_false e2]; rfl)
                  clear e1 e2
                  go_wp2_with fail
                  clear d0 d1 d2 df
                  replace p5 := show wr.drew.heap[w.heap.size]? = _ from p5
                  replace X0 := show wr.drew.cell? _ = _ from X0
                  replace X1 := show wr.drew.cell? _ = _ from X1
                  replace X2 := show wr.drew.cell? _ = _ from X2
                  replace Y0 := show wr.drew.cell? _ = _ from Y0
                  replace Y1 := show wr.drew.cell? _ = _ from Y1
                  replace Y2 := show wr.drew.cell? _ = _ from Y2
                  replace hpx := show pb < wr.drew.heap.size from hpx
                  replace hqx := show qb < wr.drew.heap.size from hqx
                  refine g_start (by kernel_rfl) ?_
                  refine g_take (i := 0) (d := (some 46)) (v := ?_) rfl rfl (by kernel_rfl) (fun _ _ _ h => h) (by rfl) (fun w' hb' => ?_) ?_
                  rotate_left
                  · (try go_simp); (try with_reducible rfl)
                  try simp only [Act.put, List.setIfInBounds_toArray, List.set_cons_zero, List.set_cons_succ]
                  refine g_take (i := 1) (d := (some 47)) (v := ?_) rfl rfl (by kernel_rfl) (fun _ _ _ h => h) (by rfl) (fun w' hb' => ?_) ?_
                  rotate_left
                  · obtain ⟨d0, d1, d2, df⟩ := block_cells3 ((hb'.block _ (lt_of_block p5)).trans p5); (try go_simp); (try with_reducible rfl)
                  try simp only [Act.put, List.setIfInBounds_toArray, List.set_cons_zero, List.set_cons_succ]
                  refine g_take (i := 2) (d := (some 48)) (v := ?_) rfl rfl (by kernel_rfl) (fun _ _ _ h => h) (by rfl) (fun w' hb' => ?_) ?_
                  rotate_left
                  · (try go_simp); (try with_reducible rfl)
                  try simp only [Act.put, List.setIfInBounds_toArray, List.set_cons_zero, List.set_cons_succ]
                  refine g_take (i := 3) (d := (some 49)) (v := ?_) rfl rfl (by kernel_rfl) (fun _ _ _ h => h) (by rfl) (fun w' hb' => ?_) ?_
                  rotate_left
                  · (try go_simp); (try with_reducible rfl)
                  try simp only [Act.put, List.setIfInBounds_toArray, List.set_cons_zero, List.set_cons_succ]
                  refine g_take (i := 4) (d := (some 50)) (v := ?_) rfl rfl (by kernel_rfl) (fun _ _ _ h => h) (by rfl) (fun w' hb' => ?_) ?_
                  rotate_left
                  · (try go_simp); (try with_reducible rfl)
                  try simp only [Act.put, List.setIfInBounds_toArray, List.set_cons_zero, List.set_cons_succ]
                  refine g_take (i := 5) (d := (some 51)) (v := ?_) rfl rfl (by kernel_rfl) (fun _ _ _ h => h) (by rfl) (fun w' hb' => ?_) ?_
                  rotate_left
                  · have y1 := (hb'.cell (p := ⟨qb, qo + q * 3 + 1, none⟩) hqx).trans Y1; (try go_simp); (try with_reducible rfl)
                  try simp only [Act.put, List.setIfInBounds_toArray, List.set_cons_zero, List.set_cons_succ]
                  refine g_take (i := 6) (d := (some 52)) (v := ?_) rfl rfl (by kernel_rfl) (fun _ _ _ h => h) (by rfl) (fun w' hb' => ?_) ?_
                  rotate_left
                  · (try go_simp); (try with_reducible rfl)
                  try simp only [Act.put, List.setIfInBounds_toArray, List.set_cons_zero, List.set_cons_succ]
                  refine g_take (i := 7) (d := (some 53)) (v := ?_) rfl rfl (by kernel_rfl) (fun _ _ _ h => h) (by rfl) (fun w' hb' => ?_) ?_
                  rotate_left
                  · (try go_simp); (try with_reducible rfl)
                  try simp only [Act.put, List.setIfInBounds_toArray, List.set_cons_zero, List.set_cons_succ]
                  refine g_take (i := 8) (d := (some 54)) (v := ?_) rfl rfl (by kernel_rfl) (fun _ _ _ h => h) (by rfl) (fun w' hb' => ?_) ?_
                  rotate_left
                  · (try go_simp); (try with_reducible rfl)
                  try simp only [Act.put, List.setIfInBounds_toArray, List.set_cons_zero, List.set_cons_succ]
                  refine g_take (i := 9) (d := (some 55)) (v := ?_) rfl rfl (by kernel_rfl) (fun _ _ _ h => h) (by rfl) (fun w' hb' => ?_) ?_
                  rotate_left
                  · (try go_simp); (try with_reducible rfl)
                  try simp only [Act.put, List.setIfInBounds_toArray, List.set_cons_zero, List.set_cons_succ]
                  refine g_take (i := 10) (d := (some 56)) (v := ?_) rfl rfl (by kernel_rfl) (fun _ _ _ h => h) (by rfl) (fun w' hb' => ?_) ?_
                  rotate_left
                  · have x1 := (hb'.cell (p := ⟨pb, po + k * 3 + 1, none⟩) hpx).trans X1; (try go_simp); (try with_reducible rfl)
                  try simp only [Act.put, List.setIfInBounds_toArray, List.set_cons_zero, List.set_cons_succ]
                  refine g_take (i := 11) (d := (some 57)) (v := ?_) rfl rfl (by kernel_rfl) (fun _ _ _ h => h) (by rfl) (fun w' hb' => ?_) ?_
                  rotate_left
                  · (try go_simp); (try with_reducible rfl)
                  try simp only [Act.put, List.setIfInBounds_toArray, List.set_cons_zero, List.set_cons_succ]
                  refine g_take (i := 12) (d := (some 58)) (v := ?_) rfl rfl (by kernel_rfl) (fun _ _ _ h => h) (by rfl) (fun w' hb' => ?_) ?_
                  rotate_left
                  · (try go_simp); (try with_reducible rfl)
                  try simp only [Act.put, List.setIfInBounds_toArray, List.set_cons_zero, List.set_cons_succ]
                  refine g_take (i := 13) (d := (some 59)) (v := ?_) rfl rfl (by kernel_rfl) (fun _ _ _ h => h) (by rfl) (fun w' hb' => ?_) ?_
                  rotate_left
                  · (try go_simp); (try with_reducible rfl)
                  try simp only [Act.put, List.setIfInBounds_toArray, List.set_cons_zero, List.set_cons_succ]
                  refine g_take (i := 14) (d := (some 60)) (v := ?_) rfl rfl (by kernel_rfl) (fun _ _ _ h => h) (by rfl) (fun w' hb' => ?_) ?_
                  rotate_left
                  · obtain ⟨d0, d1, d2, df⟩ := block_cells3 ((hb'.block _ (lt_of_block p5)).trans p5); (try go_simp); (try with_reducible rfl)
                  try simp only [Act.put, List.setIfInBounds_toArray, List.set_cons_zero, List.set_cons_succ]
                  refine g_take (i := 15) (d := (some 61)) (v := ?_) rfl rfl (by kernel_rfl) (fun _ _ _ h => h) (by rfl) (fun w' hb' => ?_) ?_
                  rotate_left
                  · (try go_simp); (try with_reducible rfl)
                  try simp only [Act.put, List.setIfInBounds_toArray, List.set_cons_zero, List.set_cons_succ]
                  refine g_take (i := 16) (d := (some 62)) (v := ?_) rfl rfl (by kernel_rfl) (fun _ _ _ h => h) (by rfl) (fun w' hb' => ?_) ?_
                  rotate_left
                  · (try go_simp); (try with_reducible rfl)
                  try simp only [Act.put, List.setIfInBounds_toArray, List.set_cons_zero, List.set_cons_succ]
                  refine g_take (i := 17) (d := (some 63)) (v := ?_) rfl rfl (by kernel_rfl) (fun _ _ _ h => h) (by rfl) (fun w' hb' => ?_) ?_
                  rotate_left
                  · (try go_simp); (try with_reducible rfl)
                  try simp only [Act.put, List.setIfInBounds_toArray, List.set_cons_zero, List.set_cons_succ]
                  refine g_take (i := 18) (d := (some 64)) (v := ?_) rfl rfl (by kernel_rfl) (fun _ _ _ h => h) (by rfl) (fun w' hb' => ?_) ?_
                  rotate_left
                  · have y2 := (hb'.cell (p := ⟨qb, qo + q * 3 + 2, none⟩) hqx).trans Y2; (try go_simp); (try with_reducible rfl)
                  try simp only [Act.put, List.setIfInBounds_toArray, List.set_cons_zero, List.set_cons_succ]
                  refine g_take (i := 19) (d := (some 65)) (v := ?_) rfl rfl (by kernel_rfl) (fun _ _ _ h => h) (by rfl) (fun w' hb' => ?_) ?_
                  rotate_left
                  · (try go_simp); (try with_reducible rfl)
                  try simp only [Act.put, List.setIfInBounds_toArray, List.set_cons_zero, List.set_cons_succ]
                  refine g_take (i := 20) (d := (some 66)) (v := ?_) rfl rfl (by kernel_rfl) (fun _ _ _ h => h) (by rfl) (fun w' hb' => ?_) ?_
                  rotate_left
                  · (try go_simp); (try with_reducible rfl)
                  try simp only [Act.put, List.setIfInBounds_toArray, List.set_cons_zero, List.set_cons_succ]
                  refine g_take (i := 21) (d := (some 67)) (v := ?_) rfl rfl (by kernel_rfl) (fun _ _ _ h => h) (by rfl) (fun w' hb' => ?_) ?_
                  rotate_left
                  · (try go_simp); (try with_reducible rfl)
                  try simp only [Act.put, List.setIfInBounds_toArray, List.set_cons_zero, List.set_cons_succ]
                  refine g_take (i := 22) (d := (some 68)) (v := ?_) rfl rfl (by kernel_rfl) (fun _ _ _ h => h) (by rfl) (fun w' hb' => ?_) ?_
                  rotate_left
                  · (try go_simp); (try with_reducible rfl)
                  try simp only [Act.put, List.setIfInBounds_toArray, List.set_cons_zero, List.set_cons_succ]
                  refine g_take (i := 23) (d := (some 69)) (v := ?_) rfl rfl (by kernel_rfl) (fun _ _ _ h => h) (by rfl) (fun w' hb' => ?_) ?_
                  rotate_left
                  · have x2 := (hb'.cell (p := ⟨pb, po + k * 3 + 2, none⟩) hpx).trans X2; (try go_simp); (try with_reducible rfl)
                  try simp only [Act.put, List.setIfInBounds_toArray, List.set_cons_zero, List.set_cons_succ]
                  refine g_take (i := 24) (d := (some 70)) (v := ?_) rfl rfl (by kernel_rfl) (fun _ _ _ h => h) (by rfl) (fun w' hb' => ?_) ?_
                  rotate_left
                  · (try go_simp); (try with_reducible rfl)
                  try simp only [Act.put, List.setIfInBounds_toArray, List.set_cons_zero, List.set_cons_succ]
                  refine g_take (i := 25) (d := (some 71)) (v := ?_) rfl rfl (by kernel_rfl) (fun _ _ _ h => h) (by rfl) (fun w' hb' => ?_) ?_
                  rotate_left
                  · (try go_simp); (try with_reducible rfl)
                  try simp only [Act.put, List.setIfInBounds_toArray, List.set_cons_zero, List.set_cons_succ]
                  refine g_take (i := 26) (d := (some 72)) (v := ?_) rfl rfl (by kernel_rfl) (fun _ _ _ h => h) (by rfl) (fun w' hb' => ?_) ?_
                  rotate_left
                  · (try go_simp); (try with_reducible rfl)
                  try simp only [Act.put, List.setIfInBounds_toArray, List.set_cons_zero, List.set_cons_succ]
                  refine g_skip (i := 27) (d := (some 73)) rfl rfl (by kernel_rfl) (fun _ _ _ h => h) (by rfl) ?_
                  try simp only [Act.put, List.setIfInBounds_toArray, List.set_cons_zero, List.set_cons_succ]
                  refine g_skip (i := 28) (d := (some 74)) rfl rfl (by kernel_rfl) (fun _ _ _ h => h) (by rfl) ?_
                  try simp only [Act.put, List.setIfInBounds_toArray, List.set_cons_zero, List.set_cons_succ]
                  refine g_skip (i := 29) (d := (some 75)) rfl rfl (by kernel_rfl) (fun _ _ _ h => h) (by rfl) ?_
                  try simp only [Act.put, List.setIfInBounds_toArray, List.set_cons_zero, List.set_cons_succ]
                  refine g_skip (i := 30) (d := (some 76)) rfl rfl (by kernel_rfl) (fun _ _ _ h => h) (by rfl) ?_
                  try simp only [Act.put, List.setIfInBounds_toArray, List.set_cons_zero, List.set_cons_succ]
                  refine g_skip (i := 31) (d := (some 77)) rfl rfl (by kernel_rfl) (fun _ _ _ h => h) (by rfl) ?_
                  try simp only [Act.put, List.setIfInBounds_toArray, List.set_cons_zero, List.set_cons_succ]
                  refine g_skip (i := 32) (d := (some 78)) rfl rfl (by kernel_rfl) (fun _ _ _ h => h) (by rfl) ?_
                  try simp only [Act.put, List.setIfInBounds_toArray, List.set_cons_zero, List.set_cons_succ]
                  refine g_skip (i := 33) (d := (some 79)) rfl rfl (by kernel_rfl) (fun _ _ _ h => h) (by rfl) ?_
                  try simp only [Act.put, List.setIfInBounds_toArray, List.set_cons_zero, List.set_cons_succ]
                  refine g_skip (i := 34) (d := (some 80)) rfl rfl (by kernel_rfl) (fun _ _ _ h => h) (by rfl) ?_
                  try simp only [Act.put, List.setIfInBounds_toArray, List.set_cons_zero, List.set_cons_succ]
                  refine g_skip (i := 35) (d := (some 81)) rfl rfl (by kernel_rfl) (fun _ _ _ h => h) (by rfl) ?_
                  try simp only [Act.put, List.setIfInBounds_toArray, List.set_cons_zero, List.set_cons_succ]
                  refine g_skip (i := 36) (d := (some 82)) rfl rfl (by kernel_rfl) (fun _ _ _ h => h) (by rfl) ?_
                  try simp only [Act.put, List.setIfInBounds_toArray, List.set_cons_zero, List.set_cons_succ]
                  refine g_skip (i := 37) (d := (some 83)) rfl rfl (by kernel_rfl) (fun _ _ _ h => h) (by rfl) ?_
                  try simp only [Act.put, List.setIfInBounds_toArray, List.set_cons_zero, List.set_cons_succ]
                  refine g_skip (i := 38) (d := (some 84)) rfl rfl (by kernel_rfl) (fun _ _ _ h => h) (by rfl) ?_
                  try simp only [Act.put, List.setIfInBounds_toArray, List.set_cons_zero, List.set_cons_succ]
                  refine g_take (i := 39) (d := (some 85)) (v := ?_) rfl rfl (by kernel_rfl) (fun _ _ _ h => h) (by rfl) (fun w' hb' => ?_) ?_
                  rotate_left
                  · (try go_simp); (try with_reducible rfl)
                  try simp only [Act.put, List.setIfInBounds_toArray, List.set_cons_zero, List.set_cons_succ]
                  refine g_done (by kernel_rfl) ?_
                  go_wp2_with fail
                  exact ⟨⟨q + 1, by omega, by push_cast; rfl, by rw [HU.out], BQ.drew⟩, by simp [intOf]; omega⟩
              · have g1 : (y2v == b) = false := by simpa using e1
                have HU := Lib.hid (show sameN (ml.take (q + 1)) ⟨a, b, c⟩ = sameN (ml.take q) ⟨a, b, c⟩ by rw [HUP.out, decide_eq_false e1]; rfl)
                clear e1
                go_wp2_with fail
                clear d0 d1 d2 df
                replace p5 := show wr.drew.heap[w.heap.size]? = _ from p5
                replace X0 := show wr.drew.cell? _ = _ from X0
                replace X1 := show wr.drew.cell? _ = _ from X1
                replace X2 := show wr.drew.cell? _ = _ from X2
                replace Y0 := show wr.drew.cell? _ = _ from Y0
                replace Y1 := show wr.drew.cell? _ = _ from Y1
                replace Y2 := show wr.drew.cell? _ = _ from Y2
                replace hpx := show pb < wr.drew.heap.size from hpx
                replace hqx := show qb < wr.drew.heap.size from hqx
                refine g_start (by kernel_rfl) ?_
                refine g_take (i := 0) (d := (some 46)) (v := ?_) rfl rfl (by kernel_rfl) (fun _ _ _ h => h) (by rfl) (fun w' hb' => ?_) ?_
                rotate_left
                · (try go_simp); (try with_reducible rfl)
                try simp only [Act.put, List.setIfInBounds_toArray, List.set_cons_zero, List.set_cons_succ]
                refine g_take (i := 1) (d := (some 47)) (v := ?_) rfl rfl (by kernel_rfl) (fun _ _ _ h => h) (by rfl) (fun w' hb' => ?_) ?_
                rotate_left
                · obtain ⟨d0, d1, d2, df⟩ := block_cells3 ((hb'.block _ (lt_of_block p5)).trans p5); (try go_simp); (try with_reducible rfl)
                try simp only [Act.put, List.setIfInBounds_toArray, List.set_cons_zero, List.set_cons_succ]
                refine g_take (i := 2) (d := (some 48)) (v := ?_) rfl rfl (by kernel_rfl) (fun _ _ _ h => h) (by rfl) (fun w' hb' => ?_) ?_
                rotate_left
                · (try go_simp); (try with_reducible rfl)
                try simp only [Act.put, List.setIfInBounds_toArray, List.set_cons_zero, List.set_cons_succ]
                refine g_take (i := 3) (d := (some 49)) (v := ?_) rfl rfl (by kernel_rfl) (fun _ _ _ h => h) (by rfl) (fun w' hb' => ?_) ?_
                rotate_left
                · (try go_simp); (try with_reducible rfl)
                try simp only [Act.put, List.setIfInBounds_toArray, List.set_cons_zero, List.set_cons_succ]
                refine g_take (i := 4) (d := (some 50)) (v := ?_) rfl rfl (by kernel_rfl) (fun _ _ _ h => h) (by rfl) (fun w' hb' => ?_) ?_
                rotate_left
                · (try go_simp); (try with_reducible rfl)
                try simp only [Act.put, List.setIfInBounds_toArray, List.set_cons_zero, List.set_cons_succ]
                refine g_take (i := 5) (d := (some 51)) (v := ?_) rfl rfl (by kernel_rfl) (fun _ _ _ h => h) (by rfl) (fun w' hb' => ?_) ?_
                rotate_left
                · have y1 := (hb'.cell (p := ⟨qb, qo + q * 3 + 1, none⟩) hqx).trans Y1; (try go_simp); (try with_reducible rfl)
                try simp only [Act.put, List.setIfInBounds_toArray, List.set_cons_zero, List.set_cons_succ]
                refine g_take (i := 6) (d := (some 52)) (v := ?_) rfl rfl (by kernel_rfl) (fun _ _ _ h => h) (by rfl) (fun w' hb' => ?_) ?_
                rotate_left
                · (try go_simp); (try with_reducible rfl)
                try simp only [Act.put, List.setIfInBounds_toArray, List.set_cons_zero, List.set_cons_succ]
                refine g_take (i := 7) (d := (some 53)) (v := ?_) rfl rfl (by kernel_rfl) (fun _ _ _ h => h) (by rfl) (fun w' hb' => ?_) ?_
                rotate_left
                · (try go_simp); (try with_reducible rfl)
                try simp only [Act.put, List.setIfInBounds_toArray, List.set_cons_zero, List.set_cons_succ]
                refine g_take (i := 8) (d := (some 54)) (v := ?_) rfl rfl (by kernel_rfl) (fun _ _ _ h => h) (by rfl) (fun w' hb' => ?_) ?_
                rotate_left
                · (try go_simp); (try with_reducible rfl)
                try simp only [Act.put, List.setIfInBounds_toArray, List.set_cons_zero, List.set_cons_succ]
                refine g_take (i := 9) (d := (some 55)) (v := ?_) rfl rfl (by kernel_rfl) (fun _ _ _ h => h) (by rfl) (fun w' hb' => ?_) ?_
                rotate_left
                · (try go_simp); (try with_reducible rfl)
                try simp only [Act.put, List.setIfInBounds_toArray, List.set_cons_zero, List.set_cons_succ]
                refine g_take (i := 10) (d := (some 56)) (v := ?_) rfl rfl (by kernel_rfl) (fun _ _ _ h => h) (by rfl) (fun w' hb' => ?_) ?_
                rotate_left
                · have x1 := (hb'.cell (p := ⟨pb, po + k * 3 + 1, none⟩) hpx).trans X1; (try go_simp); (try with_reducible rfl)
                try simp only [Act.put, List.setIfInBounds_toArray, List.set_cons_zero, List.set_cons_succ]
                refine g_take (i := 11) (d := (some 57)) (v := ?_) rfl rfl (by kernel_rfl) (fun _ _ _ h => h) (by rfl) (fun w' hb' => ?_) ?_
                rotate_left
                · (try go_simp); (try with_reducible rfl)
                try simp only [Act.put, List.setIfInBounds_toArray, List.set_cons_zero, List.set_cons_succ]
                refine g_take (i := 12) (d := (some 58)) (v := ?_) rfl rfl (by kernel_rfl) (fun _ _ _ h => h) (by rfl) (fun w' hb' => ?_) ?_
                rotate_left
                · (try go_simp); (try with_reducible rfl)
                try simp only [Act.put, List.setIfInBounds_toArray, List.set_cons_zero, List.set_cons_succ]
                refine g_skip (i := 13) (d := (some 59)) rfl rfl (by kernel_rfl) (fun _ _ _ h => h) (by rfl) ?_
                try simp only [Act.put, List.setIfInBounds_toArray, List.set_cons_zero, List.set_cons_succ]
                refine g_skip (i := 14) (d := (some 60)) rfl rfl (by kernel_rfl) (fun _ _ _ h => h) (by rfl) ?_
                try simp only [Act.put, List.setIfInBounds_toArray, List.set_cons_zero, List.set_cons_succ]
                refine g_skip (i := 15) (d := (some 61)) rfl rfl (by kernel_rfl) (fun _ _ _ h => h) (by rfl) ?_
                try simp only [Act.put, List.setIfInBounds_toArray, List.set_cons_zero, List.set_cons_succ]
                refine g_skip (i := 16) (d := (some 62)) rfl rfl (by kernel_rfl) (fun _ _ _ h => h) (by rfl) ?_
                try simp only [Act.put, List.setIfInBounds_toArray, List.set_cons_zero, List.set_cons_succ]
                refine g_skip (i := 17) (d := (some 63)) rfl rfl (by kernel_rfl) (fun _ _ _ h => h) (by rfl) ?_
                try simp only [Act.put, List.setIfInBounds_toArray, List.set_cons_zero, List.set_cons_succ]
                refine g_skip (i := 18) (d := (some 64)) rfl rfl (by kernel_rfl) (fun _ _ _ h => h) (by rfl) ?_
                try simp only [Act.put, List.setIfInBounds_toArray, List.set_cons_zero, List.set_cons_succ]
                refine g_skip (i := 19) (d := (some 65)) rfl rfl (by kernel_rfl) (fun _ _ _ h => h) (by rfl) ?_
                try simp only [Act.put, List.setIfInBounds_toArray, List.set_cons_zero, List.set_cons_succ]
                refine g_skip (i := 20) (d := (some 66)) rfl rfl (by kernel_rfl) (fun _ _ _ h => h) (by rfl) ?_
                try simp only [Act.put, List.setIfInBounds_toArray, List.set_cons_zero, List.set_cons_succ]
                refine g_skip (i := 21) (d := (some 67)) rfl rfl (by kernel_rfl) (fun _ _ _ h => h) (by rfl) ?_
                try simp only [Act.put, List.setIfInBounds_toArray, List.set_cons_zero, List.set_cons_succ]
                refine g_skip (i := 22) (d := (some 68)) rfl rfl (by kernel_rfl) (fun _ _ _ h => h) (by rfl) ?_
                try simp only [Act.put, List.setIfInBounds_toArray, List.set_cons_zero, List.set_cons_succ]
                refine g_skip (i := 23) (d := (some 69)) rfl rfl (by kernel_rfl) (fun _ _ _ h => h) (by rfl) ?_
                try simp only [Act.put, List.setIfInBounds_toArray, List.set_cons_zero, List.set_cons_succ]
                refine g_skip (i := 24) (d := (some 70)) rfl rfl (by kernel_rfl) (fun _ _ _ h => h) (by rfl) ?_
                try simp only [Act.put, List.setIfInBounds_toArray, List.set_cons_zero, List.set_cons_succ]
                refine g_take (i := 25) (d := (some 71)) (v := ?_) rfl rfl (by kernel_rfl) (fun _ _ _ h => h) (by rfl) (fun w' hb' => ?_) ?_
                rotate_left
                · (try go_simp); (try with_reducible rfl)
                try simp only [Act.put, List.setIfInBounds_toArray, List.set_cons_zero, List.set_cons_succ]
                refine g_take (i := 26) (d := (some 72)) (v := ?_) rfl rfl (by kernel_rfl) (fun _ _ _ h => h) (by rfl) (fun w' hb' => ?_) ?_
                rotate_left
                · (try go_simp); (try with_reducible rfl)
                try simp only [Act.put, List.setIfInBounds_toArray, List.set_cons_zero, List.set_cons_succ]
                refine g_skip (i := 27) (d := (some 73)) rfl rfl (by kernel_rfl) (fun _ _ _ h => h) (by rfl) ?_
                try simp only [Act.put, List.setIfInBounds_toArray, List.set_cons_zero, List.set_cons_succ]
                refine g_skip (i := 28) (d := (some 74)) rfl rfl (by kernel_rfl) (fun _ _ _ h => h) (by rfl) ?_
                try simp only [Act.put, List.setIfInBounds_toArray, List.set_cons_zero, List.set_cons_succ]
                refine g_skip (i := 29) (d := (some 75)) rfl rfl (by kernel_rfl) (fun _ _ _ h => h) (by rfl) ?_
                try simp only [Act.put, List.setIfInBounds_toArray, List.set_cons_zero, List.set_cons_succ]
                refine g_skip (i := 30) (d := (some 76)) rfl rfl (by kernel_rfl) (fun _ _ _ h => h) (by rfl) ?_
                try simp only [Act.put, List.setIfInBounds_toArray, List.set_cons_zero, List.set_cons_succ]
                refine g_skip (i := 31) (d := (some 77)) rfl rfl (by kernel_rfl) (fun _ _ _ h => h) (by rfl) ?_
                try simp only [Act.put, List.setIfInBounds_toArray, List.set_cons_zero, List.set_cons_succ]
                refine g_skip (i := 32) (d := (some 78)) rfl rfl (by kernel_rfl) (fun _ _ _ h => h) (by rfl) ?_
                try simp only [Act.put, List.setIfInBounds_toArray, List.set_cons_zero, List.set_cons_succ]
                refine g_skip (i := 33) (d := (some 79)) rfl rfl (by kernel_rfl) (fun _ _ _ h => h) (by rfl) ?_
                try simp only [Act.put, List.setIfInBounds_toArray, List.set_cons_zero, List.set_cons_succ]
                refine g_skip (i := 34) (d := (some 80)) rfl rfl (by kernel_rfl) (fun _ _ _ h => h) (by rfl) ?_
                try simp only [Act.put, List.setIfInBounds_toArray, List.set_cons_zero, List.set_cons_succ]
                refine g_skip (i := 35) (d := (some 81)) rfl rfl (by kernel_rfl) (fun _ _ _ h => h) (by rfl) ?_
                try simp only [Act.put, List.setIfInBounds_toArray, List.set_cons_zero, List.set_cons_succ]
                refine g_skip (i := 36) (d := (some 82)) rfl rfl (by kernel_rfl) (fun _ _ _ h => h) (by rfl) ?_
                try simp only [Act.put, List.setIfInBounds_toArray, List.set_cons_zero, List.set_cons_succ]
                refine g_skip (i := 37) (d := (some 83)) rfl rfl (by kernel_rfl) (fun _ _ _ h => h) (by rfl) ?_
                try simp only [Act.put, List.setIfInBounds_toArray, List.set_cons_zero, List.set_cons_succ]
                refine g_skip (i := 38) (d := (some 84)) rfl rfl (by kernel_rfl) (fun _ _ _ h => h) (by rfl) ?_
                try simp only [Act.put, List.setIfInBounds_toArray, List.set_cons_zero, List.set_cons_succ]
                refine g_take (i := 39) (d := (some 85)) (v := ?_) rfl rfl (by kernel_rfl) (fun _ _ _ h => h) (by rfl) (fun w' hb' => ?_) ?_
                rotate_left
                · (try go_simp); (try with_reducible rfl)
                try simp only [Act.put, List.setIfInBounds_toArray, List.set_cons_zero, List.set_cons_succ]
                refine g_done (by kernel_rfl) ?_
                go_wp2_with fail
                exact ⟨⟨q + 1, by omega, by push_cast; rfl, by rw [HU.out], BQ.drew⟩, by simp [intOf]; omega⟩
            · obtain rfl : q = ml.length := by omega
              rw [List.take_length]
              have q8 := (BQ.block _ (lt_of_block Q8.out)).trans Q8.out
              have RQ := HRES.out.below BQ (Nat.le_refl _)
              obtain ⟨e0, e1, e2, ef⟩ := block_cells3 q8
              have hsm := same_le ml ⟨a, b, c⟩
              obtain ⟨sm, hsmm⟩ : ∃ sm, sm = sameN ml ⟨a, b, c⟩ := ⟨_, rfl⟩
              have h1 := HSBS.out
              rw [← hsmm] at hsm h1 ⊢
              have h2 := HSBL.out
              have hlo := HLOW.out
              have hle := HLEN.out
              have hfb := HFB.out
              have hn16 := HN16.out
              have gf : (f == 0) = false := by simp; omega
              have hnl : ¬ (rl < low) := by omega
              have hsm64 : sm ≤ 64 := by omega
              clear hsmm
              by_cases hs : 2 * f + 1 ≤ (sm : Int) + 1
              · rw [decide_eq_true hs] at h1
                subst h1
                have hll : low < rl := by simpa using h2.symm
                clear h2
                go_wp2_with ((with_reducible refine (MAY.out _ BQ).mono ?_); rintro e w6 ⟨rfl, g⟩; (replace p5 := (g.block _ (lt_of_block p5)).trans p5); (replace q8 := (g.block _ (lt_of_block q8)).trans q8); (have R6 := RQ.below g (Nat.le_refl _)); (replace BQ := chain BQ g); (have G6 := set3_grown (w := w6) (B := w.heap.size) (u0 := .int .i64 rl) (u1 := .int .i64 rr) (u2 := .slice a9 n9 c9)); (have QF := Lib.hid (set3_new (u0 := .int .i64 rl) (u1 := .int .i64 rr) (u2 := .slice a9 n9 c9) p5)); (have RF := Lib.hid (show RdM _ ⟨rl, rr, rls⟩ (.slice a9 n9 c9) from ⟨rdt_three p5 G6 R6.l, R6.b⟩)); (have BF := Lib.hid (below_grownN (chain BW (chain B9 BQ)) G6 (chain BW (chain B9 BQ)).size (fun q e => by injection e with e; omega))); (clear d0 d1 d2 df e0 e1 e2 ef g R6 G6); (obtain ⟨d0, d1, d2, df⟩ := block_cells3 p5); (obtain ⟨e0, e1, e2, ef⟩ := block_cells3 q8))
                exact ⟨⟨k + 1, ⟨rl, rr, rls⟩, a9, n9, c9, by omega, by omega, by push_cast; rfl, QF.out, RF.out, HI2, HL2, BF.out⟩, by simp [intOf]; omega⟩
              · rw [decide_eq_false hs] at h1
                subst h1
                have hll : ¬ (low < rl) := by simpa using h2.symm
                clear h2
                go_wp2_with ((with_reducible refine (MAY.out _ BQ).mono ?_); rintro e w6 ⟨rfl, g⟩; (replace p5 := (g.block _ (lt_of_block p5)).trans p5); (replace q8 := (g.block _ (lt_of_block q8)).trans q8); (have R6 := RQ.below g (Nat.le_refl _)); (replace BQ := chain BQ g); (have G6 := set3_grown (w := w6) (B := w.heap.size) (u0 := .int .i64 rl) (u1 := .int .i64 rr) (u2 := .slice a9 n9 c9)); (have QF := Lib.hid (set3_new (u0 := .int .i64 rl) (u1 := .int .i64 rr) (u2 := .slice a9 n9 c9) p5)); (have RF := Lib.hid (show RdM _ ⟨rl, rr, rls⟩ (.slice a9 n9 c9) from ⟨rdt_three p5 G6 R6.l, R6.b⟩)); (have BF := Lib.hid (below_grownN (chain BW (chain B9 BQ)) G6 (chain BW (chain B9 BQ)).size (fun q e => by injection e with e; omega))); (clear d0 d1 d2 df e0 e1 e2 ef g R6 G6); (obtain ⟨d0, d1, d2, df⟩ := block_cells3 p5); (obtain ⟨e0, e1, e2, ef⟩ := block_cells3 q8))
                exact ⟨⟨k + 1, ⟨rl, rr, rls⟩, a9, n9, c9, by omega, by omega, by push_cast; rfl, QF.out, RF.out, HI2, HL2, BF.out⟩, by simp [intOf]; omega⟩
    · obtain ⟨R, hR⟩ : ∃ R, R = sayR (⟨low, root, ml⟩ : Ms) ⟨a, b, c⟩ n := ⟨_, rfl⟩
      obtain ⟨sb, hsbb⟩ : ∃ R, R = (sayS (⟨low, root, ml⟩ : Ms) ⟨a, b, c⟩ n).isSome := ⟨_, rfl⟩
      rw [← hR, ← hsbb] at SAY0
      obtain ⟨rl, rr, rls⟩ := R
      obtain ⟨Fe, hFe⟩ : ∃ F : Int, F = (E : Int) := ⟨_, rfl⟩
      have hF0 : Fe ≠ 0 := by rw [hFe]; omega
      have g0 : (Fe == 0) = false := by simpa using hF0
      have g0' : (Fe != 0) = true := by simpa using hF0
      rw [← hFe] at SAY0
      unfold mV at SAY0
      simp only at SAY0
      have SAY := Lib.hid SAY0
      clear SAY0 hE hE0 hR hsbb hFe hF0
      as_aux_lemma =>
        go_wp2_with fail
        refine gs_start (S := fun w' => w'.heap[w.heap.size]? = some (.cells #[.int .i64 low, .int .i64 root, .slice ma mn mc] 24 (0, 0)) ∧ w'.cell? ⟨pb, po + k * 3, none⟩ = some (.int .i64 a) ∧ w'.cell? ⟨pb, po + k * 3 + 1, none⟩ = some (.int .i64 b) ∧ w'.cell? ⟨pb, po + k * 3 + 2, none⟩ = some (.int .i64 c)) (by kernel_rfl) ?_
        refine gs_take (i := 0) (d := (some 27)) (v := ?_) rfl rfl (by kernel_rfl) (fun _ _ _ h => h) (by rfl) hS (fun w' hb' => ?_) ?_
        rotate_left
        · obtain ⟨d0, d1, d2, df⟩ := block_cells3 hb'.1; (try go_simp); (try with_reducible rfl)
        try simp only [Act.put, List.setIfInBounds_toArray, List.set_cons_zero, List.set_cons_succ]
        refine gs_take (i := 1) (d := (some 28)) (v := ?_) rfl rfl (by kernel_rfl) (fun _ _ _ h => h) (by rfl) hS (fun w' hb' => ?_) ?_
        rotate_left
        · (try go_simp); (try with_reducible rfl)
        try simp only [Act.put, List.setIfInBounds_toArray, List.set_cons_zero, List.set_cons_succ]
        refine gs_take (i := 2) (d := (some 29)) (v := ?_) rfl rfl (by kernel_rfl) (fun _ _ _ h => h) (by rfl) hS (fun w' hb' => ?_) ?_
        rotate_left
        · (try go_simp); (try with_reducible rfl)
        try simp only [Act.put, List.setIfInBounds_toArray, List.set_cons_zero, List.set_cons_succ]
        refine gs_take (i := 3) (d := (some 30)) (v := ?_) rfl rfl (by kernel_rfl) (fun _ _ _ h => h) (by rfl) hS (fun w' hb' => ?_) ?_
        rotate_left
        · (try go_simp); (try with_reducible rfl)
        try simp only [Act.put, List.setIfInBounds_toArray, List.set_cons_zero, List.set_cons_succ]
        refine gs_take (i := 4) (d := (some 31)) (v := ?_) rfl rfl (by kernel_rfl) (fun _ _ _ h => h) (by rfl) hS (fun w' hb' => ?_) ?_
        rotate_left
        · have c0 := hb'.2.1; have c1 := hb'.2.2.1; have c2 := hb'.2.2.2; (try go_simp); (try with_reducible rfl)
        try simp only [Act.put, List.setIfInBounds_toArray, List.set_cons_zero, List.set_cons_succ]
        refine gs_take (i := 5) (d := (some 32)) (v := ?_) rfl rfl (by kernel_rfl) (fun _ _ _ h => h) (by rfl) hS (fun w' hb' => ?_) ?_
        rotate_left
        · (try go_simp); (try with_reducible rfl)
        try simp only [Act.put, List.setIfInBounds_toArray, List.set_cons_zero, List.set_cons_succ]
        refine gs_run2 (i := 6) (k := 11) rfl rfl (by kernel_rfl) (by rfl) (by rfl) (fun K hK => ?_) (fun K hK => ?_)
        · skip
          go_simp
          refine (SAY.out _ (Below.refl wr.heap.size wr).drew).mono ?_
          rintro e w2 ⟨a9, n9, c9, rfl, rd9, g⟩
          have gw := Below.trans (Below.refl wr.heap.size wr).drew (g.mono ((Below.refl wr.heap.size wr).drew).size)
          have hS2 := And.intro ((g.block _ (lt_of_block hS.1)).trans hS.1) (And.intro ((g.cell (p := ⟨pb, po + k * 3, none⟩) hpw).trans hS.2.1) (And.intro ((g.cell (p := ⟨pb, po + k * 3 + 1, none⟩) hpw).trans hS.2.2.1) ((g.cell (p := ⟨pb, po + k * 3 + 2, none⟩) hpw).trans hS.2.2.2)))
          skip
          have hpw2 := Nat.lt_of_lt_of_le hpw g.size
          refine hK _ _ ⟨hS2, ?_⟩
          clear hK K hS hpw g
          have hS := hS2
          have hpw := hpw2
          clear hS2 hpw2
          try simp only [Act.put, List.setIfInBounds_toArray, List.set_cons_zero, List.set_cons_succ]
          refine gs_take (i := 7) (d := (some 26)) (v := ?_) rfl rfl (by kernel_rfl) (fun _ _ _ h => h) (by rfl) hS (fun w' hb' => ?_) ?_
          rotate_left
          · (try go_simp); (try with_reducible rfl)
          try simp only [Act.put, List.setIfInBounds_toArray, List.set_cons_zero, List.set_cons_succ]
          refine gs_take (i := 8) (d := (some 34)) (v := ?_) rfl rfl (by kernel_rfl) (fun _ _ _ h => h) (by rfl) hS (fun w' hb' => ?_) ?_
          rotate_left
          · (try go_simp); (try with_reducible rfl)
          try simp only [Act.put, List.setIfInBounds_toArray, List.set_cons_zero, List.set_cons_succ]
          refine gs_take (i := 9) (d := (some 35)) (v := ?_) rfl rfl (by kernel_rfl) (fun _ _ _ h => h) (by rfl) hS (fun w' hb' => ?_) ?_
          rotate_left
          · (try go_simp); (try with_reducible rfl)
          try simp only [Act.put, List.setIfInBounds_toArray, List.set_cons_zero, List.set_cons_succ]
          refine gs_take (i := 10) (d := (some 36)) (v := ?_) rfl rfl (by kernel_rfl) (fun _ _ _ h => h) (by rfl) hS (fun w' hb' => ?_) ?_
          rotate_left
          · (try go_simp); (try with_reducible rfl)
          try simp only [Act.put, List.setIfInBounds_toArray, List.set_cons_zero, List.set_cons_succ]
          refine gs_run (i := 11) rfl (by kernel_rfl) (by rfl) (fun K hK => ?_)
          go_simp
          have gz := ((Below.refl w2.heap.size w2).alloc (Nat.le_refl _) (.cells #[.int .i64 0, .int .i64 0, .slice none 0 0] 24))
          have hS2 := And.intro ((gz.block _ (lt_of_block hS.1)).trans hS.1) (And.intro ((gz.cell (p := ⟨pb, po + k * 3, none⟩) hpw).trans hS.2.1) (And.intro ((gz.cell (p := ⟨pb, po + k * 3 + 1, none⟩) hpw).trans hS.2.2.1) ((gz.cell (p := ⟨pb, po + k * 3 + 2, none⟩) hpw).trans hS.2.2.2)))
          refine hK _ _ ⟨hS2, ?_⟩
          clear hK K
          have hSA := hS
          have hpwA := hpw
          have hpw2 := Nat.lt_of_lt_of_le hpw gz.size
          clear hS hpw
          have hS := hS2
          have hpw := hpw2
          clear hS2 gz hpw2
          try simp only [Act.put, List.setIfInBounds_toArray, List.set_cons_zero, List.set_cons_succ]
          refine gs_run (i := 12) rfl (by kernel_rfl) (by rfl) (fun K hK => ?_)
          go_simp
          have gz2 := ((Below.refl w2.heap.size w2).alloc (Nat.le_refl _) (.cells #[.int .i64 rl, .int .i64 rr, .slice a9 n9 c9] 24))
          have hS2 := And.intro ((gz2.block _ (lt_of_block hSA.1)).trans hSA.1) (And.intro ((gz2.cell (p := ⟨pb, po + k * 3, none⟩) hpwA).trans hSA.2.1) (And.intro ((gz2.cell (p := ⟨pb, po + k * 3 + 1, none⟩) hpwA).trans hSA.2.2.1) ((gz2.cell (p := ⟨pb, po + k * 3 + 2, none⟩) hpwA).trans hSA.2.2.2)))
          refine hK _ _ ⟨hS2, ?_⟩
          clear hK K hS
          have hS := hS2
          try simp only [Act.put, List.setIfInBounds_toArray, List.set_cons_zero, List.set_cons_succ]
          refine gs_take (i := 13) (d := (some 9)) (v := ?_) rfl rfl (by kernel_rfl) (fun _ _ _ h => h) (by rfl) hS (fun w' hb' => ?_) ?_
          rotate_left
          · (try go_simp); (try with_reducible rfl)
          try simp only [Act.put, List.setIfInBounds_toArray, List.set_cons_zero, List.set_cons_succ]
          refine gs_take (i := 14) (d := (some 10)) (v := ?_) rfl rfl (by kernel_rfl) (fun _ _ _ h => h) (by rfl) hS (fun w' hb' => ?_) ?_
          rotate_left
          · (try go_simp); (try with_reducible rfl)
          try simp only [Act.put, List.setIfInBounds_toArray, List.set_cons_zero, List.set_cons_succ]
          refine gs_done (by kernel_rfl) ?_
          obtain ⟨W9, hW9⟩ : ∃ W, W = w2.alloc (.cells #[.int .i64 rl, .int .i64 rr, .slice a9 n9 c9] 24) := ⟨_, rfl⟩
          obtain ⟨B8, hB8⟩ : ∃ B, B = w2.heap.size := ⟨_, rfl⟩
          rw [← hW9]
          rw [← hW9] at hS2 gz2
          have q8 : W9.heap[B8]? = some (.cells #[.int .i64 rl, .int .i64 rr, .slice a9 n9 c9] 24 (0, 0)) := by rw [hW9, hB8]; exact heap_alloc_new _ _
          have r9 : RdM W9 ⟨rl, rr, rls⟩ (.slice a9 n9 c9) := rd9.below gz2 (Nat.le_refl _)
          have bB8 : wr.heap.size ≤ B8 := by rw [hB8]; exact gw.size
          have B9 : Below wr.heap.size wr W9 := Below.trans gw (gz2.mono gw.size)
          rw [← hB8]
          clear hW9 hB8 rd9 gw gz2 hSA hpwA
          have HM9 := Lib.hid (HMR.out.below B9 (Nat.le_refl _))
          have HQ5 := Lib.hid hS2.1
          have HB9 := Lib.hid (chain BW B9)
          clear q8 r9 hS hS2 hpw
          go_wp2_with fail
          exact ⟨⟨k + 1, ⟨low, root, ml⟩, ma, mn, mc, by omega, by omega, by push_cast; rfl, HQ5.out, HM9, HI, HML, HB9.out⟩, by simp [intOf]; omega⟩
        · skip
          go_simp
          have gz := ((Below.refl wr.heap.size wr).alloc (Nat.le_refl _) (.cells #[.int .i64 0, .int .i64 0, .slice none 0 0] 24)).drew
          have hS2 := And.intro ((gz.block _ (lt_of_block hS.1)).trans hS.1) (And.intro ((gz.cell (p := ⟨pb, po + k * 3, none⟩) hpw).trans hS.2.1) (And.intro ((gz.cell (p := ⟨pb, po + k * 3 + 1, none⟩) hpw).trans hS.2.2.1) ((gz.cell (p := ⟨pb, po + k * 3 + 2, none⟩) hpw).trans hS.2.2.2)))
          refine hK _ _ ⟨hS2, ?_⟩
          clear hK K hS
          have hS := hS2
          have bwB := gz
          have hpw2 : pb < ((wr.alloc (.cells #[.int .i64 0, .int .i64 0, .slice none 0 0] 24)).drew).heap.size := Nat.lt_of_lt_of_le hpw gz.size
          clear hpw
          have hpw := hpw2
          have qzB := (show ((wr.alloc (.cells #[.int .i64 0, .int .i64 0, .slice none 0 0] 24)).drew).heap[wr.heap.size]? = some (.cells #[.int .i64 0, .int .i64 0, .slice none 0 0] 24 (0, 0)) from heap_alloc_new wr (.cells #[.int .i64 0, .int .i64 0, .slice none 0 0] 24))
          clear hS2 gz hpw2
          try simp only [Act.put, List.setIfInBounds_toArray, List.set_cons_zero, List.set_cons_succ]
          refine gs_run (i := 6) rfl (by kernel_rfl) (by rfl) (fun K hK => ?_)
          go_simp
          refine (SAY.out _ bwB).mono ?_
          rintro e w2 ⟨a9, n9, c9, rfl, rd9, g⟩
          have gw := Below.trans bwB (g.mono (bwB).size)
          have hS2 := And.intro ((g.block _ (lt_of_block hS.1)).trans hS.1) (And.intro ((g.cell (p := ⟨pb, po + k * 3, none⟩) hpw).trans hS.2.1) (And.intro ((g.cell (p := ⟨pb, po + k * 3 + 1, none⟩) hpw).trans hS.2.2.1) ((g.cell (p := ⟨pb, po + k * 3 + 2, none⟩) hpw).trans hS.2.2.2)))
          have qz := (g.block _ (lt_of_block qzB)).trans qzB
          have hpw2 := Nat.lt_of_lt_of_le hpw g.size
          refine hK _ _ ⟨hS2, ?_⟩
          clear hK K hS hpw g
          have hS := hS2
          have hpw := hpw2
          clear hS2 hpw2
          try simp only [Act.put, List.setIfInBounds_toArray, List.set_cons_zero, List.set_cons_succ]
          refine gs_take (i := 7) (d := (some 26)) (v := ?_) rfl rfl (by kernel_rfl) (fun _ _ _ h => h) (by rfl) hS (fun w' hb' => ?_) ?_
          rotate_left
          · (try go_simp); (try with_reducible rfl)
          try simp only [Act.put, List.setIfInBounds_toArray, List.set_cons_zero, List.set_cons_succ]
          refine gs_take (i := 8) (d := (some 34)) (v := ?_) rfl rfl (by kernel_rfl) (fun _ _ _ h => h) (by rfl) hS (fun w' hb' => ?_) ?_
          rotate_left
          · (try go_simp); (try with_reducible rfl)
          try simp only [Act.put, List.setIfInBounds_toArray, List.set_cons_zero, List.set_cons_succ]
          refine gs_take (i := 9) (d := (some 35)) (v := ?_) rfl rfl (by kernel_rfl) (fun _ _ _ h => h) (by rfl) hS (fun w' hb' => ?_) ?_
          rotate_left
          · (try go_simp); (try with_reducible rfl)
          try simp only [Act.put, List.setIfInBounds_toArray, List.set_cons_zero, List.set_cons_succ]
          refine gs_take (i := 10) (d := (some 36)) (v := ?_) rfl rfl (by kernel_rfl) (fun _ _ _ h => h) (by rfl) hS (fun w' hb' => ?_) ?_
          rotate_left
          · (try go_simp); (try with_reducible rfl)
          try simp only [Act.put, List.setIfInBounds_toArray, List.set_cons_zero, List.set_cons_succ]
          refine gs_run (i := 12) rfl (by kernel_rfl) (by rfl) (fun K hK => ?_)
          obtain ⟨z0, z1, z2, zf⟩ := block_cells3 qz
          go_simp
          have G3 := set3_grown (w := w2) (B := wr.heap.size) (u0 := .int .i64 rl) (u1 := .int .i64 rr) (u2 := .slice a9 n9 c9)
          have hS2 := And.intro ((G3.block _ (lt_of_block hS.1) (fun e => by injection e with e; omega)).trans hS.1) (And.intro ((World.cell?_of_block (G3.block _ hpw (fun e => by injection e with e; have h8 : pb = wr.heap.size := e; omega))).trans hS.2.1) (And.intro ((World.cell?_of_block (G3.block _ hpw (fun e => by injection e with e; have h8 : pb = wr.heap.size := e; omega))).trans hS.2.2.1) ((World.cell?_of_block (G3.block _ hpw (fun e => by injection e with e; have h8 : pb = wr.heap.size := e; omega))).trans hS.2.2.2)))
          refine hK _ _ ⟨hS2, ?_⟩
          clear hK K z0 z1 z2 zf hS
          have hS := hS2
          try simp only [Act.put, List.setIfInBounds_toArray, List.set_cons_zero, List.set_cons_succ]
          refine gs_take (i := 13) (d := (some 9)) (v := ?_) rfl rfl (by kernel_rfl) (fun _ _ _ h => h) (by rfl) hS (fun w' hb' => ?_) ?_
          rotate_left
          · (try go_simp); (try with_reducible rfl)
          try simp only [Act.put, List.setIfInBounds_toArray, List.set_cons_zero, List.set_cons_succ]
          refine gs_take (i := 14) (d := (some 10)) (v := ?_) rfl rfl (by kernel_rfl) (fun _ _ _ h => h) (by rfl) hS (fun w' hb' => ?_) ?_
          rotate_left
          · (try go_simp); (try with_reducible rfl)
          try simp only [Act.put, List.setIfInBounds_toArray, List.set_cons_zero, List.set_cons_succ]
          refine gs_done (by kernel_rfl) ?_
          obtain ⟨W9, hW9⟩ : ∃ W, W = (((w2.setCell ⟨wr.heap.size, 0, none⟩ (.int .i64 rl)).setCell ⟨wr.heap.size, 1, none⟩ (.int .i64 rr)).setCell ⟨wr.heap.size, 2, none⟩ (.slice a9 n9 c9)) := ⟨_, rfl⟩
          obtain ⟨B8, hB8⟩ : ∃ B, B = wr.heap.size := ⟨_, rfl⟩
          rw [← hW9]
          rw [← hW9] at G3 hS2
          have q8 : W9.heap[B8]? = some (.cells #[.int .i64 rl, .int .i64 rr, .slice a9 n9 c9] 24 (0, 0)) := by rw [hW9, hB8]; exact set3_new qz
          have r9 : RdM W9 ⟨rl, rr, rls⟩ (.slice a9 n9 c9) := ⟨rdt_three qz G3 rd9.l, rd9.b⟩
          have bB8 : wr.heap.size ≤ B8 := by rw [hB8]; exact Nat.le_refl _
          have B9 := below_grownN gw G3 gw.size (fun q e => by injection e with e; omega)
          rw [← hB8]
          clear hW9 hB8 qz rd9 gw G3
          have HM9 := Lib.hid (HMR.out.below B9 (Nat.le_refl _))
          have HQ5 := Lib.hid hS2.1
          have HB9 := Lib.hid (chain BW B9)
          clear q8 r9 hS hS2 hpw
          go_wp2_with fail
          exact ⟨⟨k + 1, ⟨low, root, ml⟩, ma, mn, mc, by omega, by omega, by push_cast; rfl, HQ5.out, HM9, HI, HML, HB9.out⟩, by simp [intOf]; omega⟩
/-- The law MarksKeep, as its row has it. -/
theorem keeps_row (n : Int) (v : Value) (l : List Vt) (w : World) (hn : (Lit.int .i64 n).wf = true) (h : RdT w v l) (hb : ∀ x ∈ l, x.vw ≤ 9223372036854775807) : Calls Try.prog 5 #[.int .i64 n, v] w fun e w' => e = .returned (.bool true) ∧ Below w.heap.size w w' :=
  keeps_walk n v l w (by simp [Lit.wf, IntKind.min, IntKind.max, IntKind.signed, IntKind.bits] at hn; omega) h hb
end Go.Proofs.Ytgmblgpfgdfnaaa
