/- Marks: the law MarksTell. Written by wip/tools/gen30m.py. -/
import Derived.Test.YtgmblgpfgdfnaaaQMM37
namespace Go.Proofs.Ytgmblgpfgdfnaaa
open Go Go.RowKit
set_option linter.unusedVariables false
set_option linter.unusedSimpArgs false
set_option maxRecDepth 100000

theorem say_app (a b : List Vt) (seq tm : Int) : sayM (a ++ b) seq tm = sayM a seq tm ++ sayM b seq tm := by unfold sayM; rw [List.filter_append, List.map_append]
theorem say_at {l : List Vt} {seq tm : Int} {i : Nat} (hi : i < l.length) (h : mat seq tm l[i] = true) : ∃ hk : (sayM (l.take i) seq tm).length < (sayM l seq tm).length, (sayM l seq tm)[(sayM (l.take i) seq tm).length]'hk = ⟨l[i].fr, 5, 0, seq, tm⟩ := by
  have e : sayM l seq tm = sayM (l.take i) seq tm ++ (⟨l[i].fr, 5, 0, seq, tm⟩ :: sayM (l.drop (i + 1)) seq tm) := by
    have h1 : l = l.take i ++ (l[i] :: l.drop (i + 1)) := by rw [← List.drop_eq_getElem_cons hi, List.take_append_drop]
    have h2 : sayM l seq tm = sayM (l.take i ++ (l[i] :: l.drop (i + 1))) seq tm := by rw [← h1]
    rw [h2, say_app]
    congr 1
    unfold sayM
    rw [List.filter_cons, if_pos h, List.map_cons]
  have hk : (sayM (l.take i) seq tm).length < (sayM l seq tm).length := by rw [e]; simp
  refine ⟨hk, ?_⟩
  have e2 : (sayM l seq tm)[(sayM (l.take i) seq tm).length]? = some ⟨l[i].fr, 5, 0, seq, tm⟩ := by rw [e, List.getElem?_append_right (Nat.le_refl _)]; simp
  rw [List.getElem?_eq_getElem hk] at e2
  exact Option.some.inj e2
def cntT (M : Bool) (l : List Vt) (seq tm : Int) (i : Nat) : Nat := if M = true then (sayM (l.take i) seq tm).length else 0
set_option maxHeartbeats 4000000 in
theorem tells_walk (m : Ms) (v : Value) (seq tm : Int) (w : World) (h : RdM w m v) (hs : seq ≤ 9223372036854775807) : Calls Try.prog 3 #[mV m v, .int .i64 seq, .int .i64 tm] w fun e w' => e = .returned (.bool true) ∧ Below w.heap.size w w' := by
  have FA0 := fun w' (g : Below w.heap.size w w') => few_any m v w' (h.below g (Nat.le_refl _))
  have hfl := few_len m
  have AW := Lib.hid awake_any
  obtain ⟨ao, len, cap, rfl⟩ := rdt_val h.l
  obtain ⟨low0, root0, l0⟩ := m
  unfold fewM at FA0 hfl
  unfold mV at FA0 ⊢
  simp only at FA0 hfl ⊢
  obtain ⟨l, hl⟩ : ∃ l, l = l0.take 260 := ⟨_, rfl⟩
  rw [← hl] at FA0 hfl
  have FA := Lib.hid FA0
  have HFL := Lib.hid hfl
  have q0 := heap_alloc_new w (.cells #[.int .i64 low0, .int .i64 root0, .slice ao len cap] 24)
  have bel := (Below.refl w.heap.size w).alloc (Nat.le_refl _) (.cells #[.int .i64 low0, .int .i64 root0, .slice ao len cap] 24)
  obtain ⟨d0, d1, d2, df⟩ := block_cells3 q0
  clear h FA0 hl hfl
  go_enter Try.func3, Try.ntmps3
  go_wp2_with fail
  refine (FA.out _ bel).mono ?_
  rintro e w1 ⟨a1, n1, k1, rfl, rd, g⟩
  simp only [mV]
  replace q0 := (g.block _ (lt_of_block q0)).trans q0
  replace bel := chain bel g
  clear d0 d1 d2 df g FA
  obtain ⟨d0, d1, d2, df⟩ := block_cells3 q0
  go_wp2_with fail
  obtain ⟨W1, hW1⟩ : ∃ W, W = (((w1.setCell ⟨w.heap.size, 0, none⟩ (.int .i64 low0)).setCell ⟨w.heap.size, 1, none⟩ (.int .i64 root0)).setCell ⟨w.heap.size, 2, none⟩ (.slice a1 n1 k1)) := ⟨_, rfl⟩
  rw [← hW1]
  have G1 : w1.grownBy W1 (some w.heap.size) := by rw [hW1]; exact set3_grown
  have p0 : W1.heap[w.heap.size]? = some (.cells #[.int .i64 low0, .int .i64 root0, .slice a1 n1 k1] 24 (0, 0)) := by rw [hW1]; exact set3_new q0
  have HR1 := Lib.hid (show RdM W1 ⟨low0, root0, l⟩ (.slice a1 n1 k1) from ⟨rdt_three q0 G1 rd.l, rd.b⟩)
  have B1 := below_grownN bel G1 bel.size (fun q e => by injection e with e; omega)
  have VO0 := voices_any ⟨low0, root0, l⟩ (.slice a1 n1 k1) seq tm W1 HR1.out (Nat.le_trans HFL.out (by decide))
  have MA0 := fun w' (g : Below W1.heap.size W1 w') => may_any ⟨low0, root0, l⟩ (.slice a1 n1 k1) w' (HR1.out.below g (Nat.le_refl _))
  have MB0 := fun w' (g : Below W1.heap.size W1 w') => refMay_any ⟨low0, root0, l⟩ (.slice a1 n1 k1) w' (HR1.out.below g (Nat.le_refl _))
  have IN0 := fun w' (g : Below W1.heap.size W1 w') => in_any ⟨low0, root0, l⟩ (.slice a1 n1 k1) seq w' (HR1.out.below g (Nat.le_refl _)) hs
  have DU0 := fun w' => due_any seq w'
  have RD0 := fun w' => refDue_any seq w'
  obtain ⟨V, hV⟩ : ∃ V, V = voiM ⟨low0, root0, l⟩ seq tm := ⟨_, rfl⟩
  obtain ⟨M, hM⟩ : ∃ V, V = mayM ⟨low0, root0, l⟩ := ⟨_, rfl⟩
  have HVM := Lib.hid (show V = if M = true then sayM l seq tm else [] by rw [hV, hM]; rfl)
  have HM0 := fun e : M = true => (show 0 ≤ low0 by have := ((mayM_iff ⟨low0, root0, l⟩).1 (hM ▸ e)).1; unfold numB at this; simp at this; exact this.1)
  rw [← hV] at VO0
  rw [← hM] at MA0 MB0 IN0
  simp only at IN0
  obtain ⟨WB, hWB⟩ : ∃ V, V = witB low0 seq := ⟨_, rfl⟩
  have WI0 := fun (h : 0 ≤ low0) w' => refWithin_any low0 seq h w'
  rw [← hWB] at IN0 WI0
  obtain ⟨DB, hDB⟩ : ∃ V, V = dueB seq := ⟨_, rfl⟩
  rw [← hDB] at DU0 RD0
  unfold mV at VO0 MA0 MB0 IN0
  simp only at VO0 MA0 MB0 IN0
  have VO := Lib.hid VO0
  have MA := Lib.hid MA0
  have MB := Lib.hid MB0
  have IN := Lib.hid IN0
  have DU := Lib.hid DU0
  have RD := Lib.hid RD0
  clear hW1 G1 rd bel q0 d0 d1 d2 df MA0 MB0 VO0 IN0 DU0 RD0 hV hM hWB hDB
  refine VO.out.mono ?_
  rintro e w2 ⟨av, cv, rfl, ov, g⟩
  have hn1 : n1 = l.length := by
    obtain ⟨ao', cap', e9, _⟩ := HR1.out.l
    injection e9
  subst hn1
  have p2 := (g.block _ (lt_of_block p0)).trans p0
  have Q2 := Lib.hid p2
  have GV := Lib.hid g
  have HR2 := Lib.hid (HR1.out.l.below g (Nat.le_refl _))
  have HOV := Lib.hid ov
  clear p0 g ov VO p2 HR1
  go_wp2_with fail
  go_loopw [8, 9] (fun c x wr => ∃ i : Nat, i ≤ l.length ∧ x = .int .i64 (i : Int) ∧ c = .int .i64 ((cntT M l seq tm i : Nat) : Int) ∧ Below w2.heap.size w2 wr) (fun _ x _ => l.length - (intOf x).toNat)
  case atStart => exact ⟨0, Nat.zero_le _, rfl, by cases M <;> rfl, Below.refl _ _⟩
  case round =>
    obtain ⟨i, hi, rfl, rfl, BI⟩ := hrel
    have hl260 := HFL.out
    have q0 := (BI.block _ (lt_of_block Q2.out)).trans Q2.out
    have K0 := chain GV.out BI
    obtain ⟨d0, d1, d2, df⟩ := block_cells3 q0
    cases M with
    | false =>
      have GLN := Lib.hid (show ((0 : Int) == (V.length : Int)) = true by rw [HVM.out]; rfl)
      have hc : cntT false l seq tm i = 0 := rfl
      rw [hc]
      clear hc HVM
      by_cases hlt : i < l.length
      · have hiz : (i : Int) < (l.length : Int) := by omega
        as_aux_lemma =>
          go_wp2_with ((with_reducible refine (MB.out _ K0).mono ?_); rintro e u9 ⟨rfl, g⟩; (replace q0 := (g.block _ (lt_of_block q0)).trans q0); (replace K0 := chain K0 g); (replace BI := chain BI g); clear g d0 d1 d2 df; (obtain ⟨d0, d1, d2, df⟩ := block_cells3 q0))
          clear d0 d1 d2 df
          replace q0 := show u9.drew.heap[w.heap.size]? = _ from q0
          replace K0 := K0.drew
          refine g_start (by kernel_rfl) ?_
          refine g_take (i := 0) (d := (some 67)) (v := ?_) rfl rfl (by kernel_rfl) (fun _ _ _ h => h) (by rfl) (fun w' hb' => ?_) ?_
          rotate_left
          · (try go_simp); (try with_reducible rfl)
          try simp only [Act.put, List.setIfInBounds_toArray, List.set_cons_zero, List.set_cons_succ]
          refine g_take (i := 1) (d := (some 68)) (v := ?_) rfl rfl (by kernel_rfl) (fun _ _ _ h => h) (by rfl) (fun w' hb' => ?_) ?_
          rotate_left
          · (try go_simp); (try with_reducible rfl)
          try simp only [Act.put, List.setIfInBounds_toArray, List.set_cons_zero, List.set_cons_succ]
          refine g_take (i := 2) (d := (some 69)) (v := ?_) rfl rfl (by kernel_rfl) (fun _ _ _ h => h) (by rfl) (fun w' hb' => ?_) ?_
          rotate_left
          · (try go_simp); (try with_reducible rfl)
          try simp only [Act.put, List.setIfInBounds_toArray, List.set_cons_zero, List.set_cons_succ]
          refine g_take (i := 3) (d := (some 70)) (v := ?_) rfl rfl (by kernel_rfl) (fun _ _ _ h => h) (by rfl) (fun w' hb' => ?_) ?_
          rotate_left
          · have gln := GLN.out; (try go_simp); (try with_reducible rfl)
          try simp only [Act.put, List.setIfInBounds_toArray, List.set_cons_zero, List.set_cons_succ]
          refine g_take (i := 4) (d := (some 71)) (v := ?_) rfl rfl (by kernel_rfl) (fun _ _ _ h => h) (by rfl) (fun w' hb' => ?_) ?_
          rotate_left
          · (try go_simp); (try with_reducible rfl)
          try simp only [Act.put, List.setIfInBounds_toArray, List.set_cons_zero, List.set_cons_succ]
          refine g_take (i := 5) (d := (some 72)) (v := ?_) rfl rfl (by kernel_rfl) (fun _ _ _ h => h) (by rfl) (fun w' hb' => ?_) ?_
          rotate_left
          · obtain ⟨d0, d1, d2, df⟩ := block_cells3 ((hb'.block _ (lt_of_block q0)).trans q0); (try go_simp); (try with_reducible rfl)
          try simp only [Act.put, List.setIfInBounds_toArray, List.set_cons_zero, List.set_cons_succ]
          refine g_take (i := 7) (d := (some 74)) (v := ?_) rfl rfl (by kernel_rfl) (fun _ _ _ h => h) (by rfl) (fun w' hb' => ?_) ?_
          rotate_left
          · obtain ⟨d0, d1, d2, df⟩ := block_cells3 ((hb'.block _ (lt_of_block q0)).trans q0); (try go_simp); (try with_reducible rfl)
          try simp only [Act.put, List.setIfInBounds_toArray, List.set_cons_zero, List.set_cons_succ]
          refine g_run (i := 6) rfl (by kernel_rfl) (by rfl) (fun K hK => ?_)
          go_simp; refine (MA.out _ K0).mono ?_; rintro e u1 ⟨rfl, g⟩; have q1 := (g.block _ (lt_of_block q0)).trans q0; have K1 := chain K0 g; refine hK _ _ ⟨g, ?_⟩; clear hK K g
          try simp only [Act.put, List.setIfInBounds_toArray, List.set_cons_zero, List.set_cons_succ]
          refine g_run (i := 8) rfl (by kernel_rfl) (by rfl) (fun K hK => ?_)
          go_simp; refine (MB.out _ K1).mono ?_; rintro e u2 ⟨rfl, g⟩; have q2 := (g.block _ (lt_of_block q1)).trans q1; have K2 := chain K1 g; refine hK _ _ ⟨g, ?_⟩; clear hK K g
          try simp only [Act.put, List.setIfInBounds_toArray, List.set_cons_zero, List.set_cons_succ]
          refine g_take (i := 9) (d := (some 76)) (v := ?_) rfl rfl (by kernel_rfl) (fun _ _ _ h => h) (by rfl) (fun w' hb' => ?_) ?_
          rotate_left
          · (try go_simp); (try with_reducible rfl)
          try simp only [Act.put, List.setIfInBounds_toArray, List.set_cons_zero, List.set_cons_succ]
          refine g_take (i := 10) (d := (some 77)) (v := ?_) rfl rfl (by kernel_rfl) (fun _ _ _ h => h) (by rfl) (fun w' hb' => ?_) ?_
          rotate_left
          · (try go_simp); (try with_reducible rfl)
          try simp only [Act.put, List.setIfInBounds_toArray, List.set_cons_zero, List.set_cons_succ]
          refine g_take (i := 11) (d := (some 78)) (v := ?_) rfl rfl (by kernel_rfl) (fun _ _ _ h => h) (by rfl) (fun w' hb' => ?_) ?_
          rotate_left
          · (try go_simp); (try with_reducible rfl)
          try simp only [Act.put, List.setIfInBounds_toArray, List.set_cons_zero, List.set_cons_succ]
          refine g_take (i := 12) (d := (some 79)) (v := ?_) rfl rfl (by kernel_rfl) (fun _ _ _ h => h) (by rfl) (fun w' hb' => ?_) ?_
          rotate_left
          · obtain ⟨d0, d1, d2, df⟩ := block_cells3 ((hb'.block _ (lt_of_block q2)).trans q2); (try go_simp); (try with_reducible rfl)
          try simp only [Act.put, List.setIfInBounds_toArray, List.set_cons_zero, List.set_cons_succ]
          refine g_take (i := 13) (d := (some 80)) (v := ?_) rfl rfl (by kernel_rfl) (fun _ _ _ h => h) (by rfl) (fun w' hb' => ?_) ?_
          rotate_left
          · (try go_simp); (try with_reducible rfl)
          try simp only [Act.put, List.setIfInBounds_toArray, List.set_cons_zero, List.set_cons_succ]
          refine g_take (i := 15) (d := (some 82)) (v := ?_) rfl rfl (by kernel_rfl) (fun _ _ _ h => h) (by rfl) (fun w' hb' => ?_) ?_
          rotate_left
          · obtain ⟨d0, d1, d2, df⟩ := block_cells3 ((hb'.block _ (lt_of_block q2)).trans q2); (try go_simp); (try with_reducible rfl)
          try simp only [Act.put, List.setIfInBounds_toArray, List.set_cons_zero, List.set_cons_succ]
          refine g_run (i := 14) rfl (by kernel_rfl) (by rfl) (fun K hK => ?_)
          go_simp; refine (IN.out _ K2).mono ?_; rintro e u3 ⟨rfl, g⟩; have q3 := (g.block _ (lt_of_block q2)).trans q2; have K3 := chain K2 g; refine hK _ _ ⟨g, ?_⟩; clear hK K g
          try simp only [Act.put, List.setIfInBounds_toArray, List.set_cons_zero, List.set_cons_succ]
          refine g_run (i := 16) rfl (by kernel_rfl) (by rfl) (fun K hK => ?_)
          go_simp; refine (MB.out _ K3).mono ?_; rintro e u4 ⟨rfl, g⟩; have q4 := (g.block _ (lt_of_block q3)).trans q3; have K4 := chain K3 g; refine hK _ _ ⟨g, ?_⟩; clear hK K g
          try simp only [Act.put, List.setIfInBounds_toArray, List.set_cons_zero, List.set_cons_succ]
          refine g_take (i := 17) (d := (some 84)) (v := ?_) rfl rfl (by kernel_rfl) (fun _ _ _ h => h) (by rfl) (fun w' hb' => ?_) ?_
          rotate_left
          · (try go_simp); (try with_reducible rfl)
          try simp only [Act.put, List.setIfInBounds_toArray, List.set_cons_zero, List.set_cons_succ]
          refine g_skip (i := 18) (d := (some 85)) rfl rfl (by kernel_rfl) (fun _ _ _ h => h) (by rfl) ?_
          try simp only [Act.put, List.setIfInBounds_toArray, List.set_cons_zero, List.set_cons_succ]
          refine g_skip (i := 19) (d := (some 86)) rfl rfl (by kernel_rfl) (fun _ _ _ h => h) (by rfl) ?_
          try simp only [Act.put, List.setIfInBounds_toArray, List.set_cons_zero, List.set_cons_succ]
          refine g_skip (i := 20) (d := (some 87)) rfl rfl (by kernel_rfl) (fun _ _ _ h => h) (by rfl) ?_
          try simp only [Act.put, List.setIfInBounds_toArray, List.set_cons_zero, List.set_cons_succ]
          refine g_skip (i := 21) (d := (some 88)) rfl rfl (by kernel_rfl) (fun _ _ _ h => h) (by rfl) ?_
          try simp only [Act.put, List.setIfInBounds_toArray, List.set_cons_zero, List.set_cons_succ]
          refine g_take (i := 22) (d := (some 89)) (v := ?_) rfl rfl (by kernel_rfl) (fun _ _ _ h => h) (by rfl) (fun w' hb' => ?_) ?_
          rotate_left
          · (try go_simp); (try with_reducible rfl)
          try simp only [Act.put, List.setIfInBounds_toArray, List.set_cons_zero, List.set_cons_succ]
          refine g_take (i := 23) (d := (some 90)) (v := ?_) rfl rfl (by kernel_rfl) (fun _ _ _ h => h) (by rfl) (fun w' hb' => ?_) ?_
          rotate_left
          · (try go_simp); (try with_reducible rfl)
          try simp only [Act.put, List.setIfInBounds_toArray, List.set_cons_zero, List.set_cons_succ]
          refine g_take (i := 24) (d := (some 91)) (v := ?_) rfl rfl (by kernel_rfl) (fun _ _ _ h => h) (by rfl) (fun w' hb' => ?_) ?_
          rotate_left
          · (try go_simp); (try with_reducible rfl)
          try simp only [Act.put, List.setIfInBounds_toArray, List.set_cons_zero, List.set_cons_succ]
          refine g_take (i := 25) (d := (some 92)) (v := ?_) rfl rfl (by kernel_rfl) (fun _ _ _ h => h) (by rfl) (fun w' hb' => ?_) ?_
          rotate_left
          · (try go_simp); (try with_reducible rfl)
          try simp only [Act.put, List.setIfInBounds_toArray, List.set_cons_zero, List.set_cons_succ]
          refine g_take (i := 26) (d := (some 93)) (v := ?_) rfl rfl (by kernel_rfl) (fun _ _ _ h => h) (by rfl) (fun w' hb' => ?_) ?_
          rotate_left
          · (try go_simp); (try with_reducible rfl)
          try simp only [Act.put, List.setIfInBounds_toArray, List.set_cons_zero, List.set_cons_succ]
          refine g_take (i := 28) (d := (some 95)) (v := ?_) rfl rfl (by kernel_rfl) (fun _ _ _ h => h) (by rfl) (fun w' hb' => ?_) ?_
          rotate_left
          · (try go_simp); (try with_reducible rfl)
          try simp only [Act.put, List.setIfInBounds_toArray, List.set_cons_zero, List.set_cons_succ]
          refine g_run (i := 27) rfl (by kernel_rfl) (by rfl) (fun K hK => ?_)
          go_simp; refine (DU.out _).mono ?_; rintro e w9 ⟨rfl, rfl⟩; refine hK _ _ ⟨Below.refl _ _, ?_⟩; clear hK K
          try simp only [Act.put, List.setIfInBounds_toArray, List.set_cons_zero, List.set_cons_succ]
          refine g_run (i := 29) rfl (by kernel_rfl) (by rfl) (fun K hK => ?_)
          go_simp; refine (RD.out _).mono ?_; rintro e w9 ⟨rfl, rfl⟩; refine hK _ _ ⟨Below.refl _ _, ?_⟩; clear hK K
          try simp only [Act.put, List.setIfInBounds_toArray, List.set_cons_zero, List.set_cons_succ]
          refine g_take (i := 30) (d := (some 97)) (v := ?_) rfl rfl (by kernel_rfl) (fun _ _ _ h => h) (by rfl) (fun w' hb' => ?_) ?_
          rotate_left
          · (try go_simp); (try with_reducible rfl)
          try simp only [Act.put, List.setIfInBounds_toArray, List.set_cons_zero, List.set_cons_succ]
          refine g_take (i := 31) (d := (some 98)) (v := ?_) rfl rfl (by kernel_rfl) (fun _ _ _ h => h) (by rfl) (fun w' hb' => ?_) ?_
          rotate_left
          · (try go_simp); (try with_reducible rfl)
          try simp only [Act.put, List.setIfInBounds_toArray, List.set_cons_zero, List.set_cons_succ]
          refine g_take (i := 32) (d := (some 99)) (v := ?_) rfl rfl (by kernel_rfl) (fun _ _ _ h => h) (by rfl) (fun w' hb' => ?_) ?_
          rotate_left
          · (try go_simp); (try with_reducible rfl)
          try simp only [Act.put, List.setIfInBounds_toArray, List.set_cons_zero, List.set_cons_succ]
          refine g_run (i := 33) rfl (by kernel_rfl) (by rfl) (fun K hK => ?_)
          go_simp; refine (AW.out _).mono ?_; rintro e u5 ⟨rfl, g⟩; have q5 := (g.block _ (lt_of_block q4)).trans q4; have K5 := chain K4 g; refine hK _ _ ⟨g, ?_⟩; clear hK K g
          try simp only [Act.put, List.setIfInBounds_toArray, List.set_cons_zero, List.set_cons_succ]
          refine g_take (i := 34) (d := (some 101)) (v := ?_) rfl rfl (by kernel_rfl) (fun _ _ _ h => h) (by rfl) (fun w' hb' => ?_) ?_
          rotate_left
          · (try go_simp); (try with_reducible rfl)
          try simp only [Act.put, List.setIfInBounds_toArray, List.set_cons_zero, List.set_cons_succ]
          refine g_take (i := 35) (d := (some 6)) (v := ?_) rfl rfl (by kernel_rfl) (fun _ _ _ h => h) (by rfl) (fun w' hb' => ?_) ?_
          rotate_left
          · (try go_simp); (try with_reducible rfl)
          try simp only [Act.put, List.setIfInBounds_toArray, List.set_cons_zero, List.set_cons_succ]
          refine g_done (by kernel_rfl) ?_
          go_wp2_with fail
          go_ret
          exact ⟨rfl, chain B1 K5⟩
      · have hiz : ¬ ((i : Int) < (l.length : Int)) := by omega
        as_aux_lemma =>
          go_wp2_with fail
          clear d0 d1 d2 df
          replace q0 := show wr.drew.heap[w.heap.size]? = _ from q0
          replace K0 := K0.drew
          refine g_start (by kernel_rfl) ?_
          refine g_take (i := 0) (d := (some 67)) (v := ?_) rfl rfl (by kernel_rfl) (fun _ _ _ h => h) (by rfl) (fun w' hb' => ?_) ?_
          rotate_left
          · (try go_simp); (try with_reducible rfl)
          try simp only [Act.put, List.setIfInBounds_toArray, List.set_cons_zero, List.set_cons_succ]
          refine g_take (i := 1) (d := (some 68)) (v := ?_) rfl rfl (by kernel_rfl) (fun _ _ _ h => h) (by rfl) (fun w' hb' => ?_) ?_
          rotate_left
          · (try go_simp); (try with_reducible rfl)
          try simp only [Act.put, List.setIfInBounds_toArray, List.set_cons_zero, List.set_cons_succ]
          refine g_take (i := 2) (d := (some 69)) (v := ?_) rfl rfl (by kernel_rfl) (fun _ _ _ h => h) (by rfl) (fun w' hb' => ?_) ?_
          rotate_left
          · (try go_simp); (try with_reducible rfl)
          try simp only [Act.put, List.setIfInBounds_toArray, List.set_cons_zero, List.set_cons_succ]
          refine g_take (i := 3) (d := (some 70)) (v := ?_) rfl rfl (by kernel_rfl) (fun _ _ _ h => h) (by rfl) (fun w' hb' => ?_) ?_
          rotate_left
          · have gln := GLN.out; (try go_simp); (try with_reducible rfl)
          try simp only [Act.put, List.setIfInBounds_toArray, List.set_cons_zero, List.set_cons_succ]
          refine g_take (i := 4) (d := (some 71)) (v := ?_) rfl rfl (by kernel_rfl) (fun _ _ _ h => h) (by rfl) (fun w' hb' => ?_) ?_
          rotate_left
          · (try go_simp); (try with_reducible rfl)
          try simp only [Act.put, List.setIfInBounds_toArray, List.set_cons_zero, List.set_cons_succ]
          refine g_take (i := 5) (d := (some 72)) (v := ?_) rfl rfl (by kernel_rfl) (fun _ _ _ h => h) (by rfl) (fun w' hb' => ?_) ?_
          rotate_left
          · obtain ⟨d0, d1, d2, df⟩ := block_cells3 ((hb'.block _ (lt_of_block q0)).trans q0); (try go_simp); (try with_reducible rfl)
          try simp only [Act.put, List.setIfInBounds_toArray, List.set_cons_zero, List.set_cons_succ]
          refine g_take (i := 7) (d := (some 74)) (v := ?_) rfl rfl (by kernel_rfl) (fun _ _ _ h => h) (by rfl) (fun w' hb' => ?_) ?_
          rotate_left
          · obtain ⟨d0, d1, d2, df⟩ := block_cells3 ((hb'.block _ (lt_of_block q0)).trans q0); (try go_simp); (try with_reducible rfl)
          try simp only [Act.put, List.setIfInBounds_toArray, List.set_cons_zero, List.set_cons_succ]
          refine g_run (i := 6) rfl (by kernel_rfl) (by rfl) (fun K hK => ?_)
          go_simp; refine (MA.out _ K0).mono ?_; rintro e u1 ⟨rfl, g⟩; have q1 := (g.block _ (lt_of_block q0)).trans q0; have K1 := chain K0 g; refine hK _ _ ⟨g, ?_⟩; clear hK K g
          try simp only [Act.put, List.setIfInBounds_toArray, List.set_cons_zero, List.set_cons_succ]
          refine g_run (i := 8) rfl (by kernel_rfl) (by rfl) (fun K hK => ?_)
          go_simp; refine (MB.out _ K1).mono ?_; rintro e u2 ⟨rfl, g⟩; have q2 := (g.block _ (lt_of_block q1)).trans q1; have K2 := chain K1 g; refine hK _ _ ⟨g, ?_⟩; clear hK K g
          try simp only [Act.put, List.setIfInBounds_toArray, List.set_cons_zero, List.set_cons_succ]
          refine g_take (i := 9) (d := (some 76)) (v := ?_) rfl rfl (by kernel_rfl) (fun _ _ _ h => h) (by rfl) (fun w' hb' => ?_) ?_
          rotate_left
          · (try go_simp); (try with_reducible rfl)
          try simp only [Act.put, List.setIfInBounds_toArray, List.set_cons_zero, List.set_cons_succ]
          refine g_take (i := 10) (d := (some 77)) (v := ?_) rfl rfl (by kernel_rfl) (fun _ _ _ h => h) (by rfl) (fun w' hb' => ?_) ?_
          rotate_left
          · (try go_simp); (try with_reducible rfl)
          try simp only [Act.put, List.setIfInBounds_toArray, List.set_cons_zero, List.set_cons_succ]
          refine g_take (i := 11) (d := (some 78)) (v := ?_) rfl rfl (by kernel_rfl) (fun _ _ _ h => h) (by rfl) (fun w' hb' => ?_) ?_
          rotate_left
          · (try go_simp); (try with_reducible rfl)
          try simp only [Act.put, List.setIfInBounds_toArray, List.set_cons_zero, List.set_cons_succ]
          refine g_take (i := 12) (d := (some 79)) (v := ?_) rfl rfl (by kernel_rfl) (fun _ _ _ h => h) (by rfl) (fun w' hb' => ?_) ?_
          rotate_left
          · obtain ⟨d0, d1, d2, df⟩ := block_cells3 ((hb'.block _ (lt_of_block q2)).trans q2); (try go_simp); (try with_reducible rfl)
          try simp only [Act.put, List.setIfInBounds_toArray, List.set_cons_zero, List.set_cons_succ]
          refine g_take (i := 13) (d := (some 80)) (v := ?_) rfl rfl (by kernel_rfl) (fun _ _ _ h => h) (by rfl) (fun w' hb' => ?_) ?_
          rotate_left
          · (try go_simp); (try with_reducible rfl)
          try simp only [Act.put, List.setIfInBounds_toArray, List.set_cons_zero, List.set_cons_succ]
          refine g_take (i := 15) (d := (some 82)) (v := ?_) rfl rfl (by kernel_rfl) (fun _ _ _ h => h) (by rfl) (fun w' hb' => ?_) ?_
          rotate_left
          · obtain ⟨d0, d1, d2, df⟩ := block_cells3 ((hb'.block _ (lt_of_block q2)).trans q2); (try go_simp); (try with_reducible rfl)
          try simp only [Act.put, List.setIfInBounds_toArray, List.set_cons_zero, List.set_cons_succ]
          refine g_run (i := 14) rfl (by kernel_rfl) (by rfl) (fun K hK => ?_)
          go_simp; refine (IN.out _ K2).mono ?_; rintro e u3 ⟨rfl, g⟩; have q3 := (g.block _ (lt_of_block q2)).trans q2; have K3 := chain K2 g; refine hK _ _ ⟨g, ?_⟩; clear hK K g
          try simp only [Act.put, List.setIfInBounds_toArray, List.set_cons_zero, List.set_cons_succ]
          refine g_run (i := 16) rfl (by kernel_rfl) (by rfl) (fun K hK => ?_)
          go_simp; refine (MB.out _ K3).mono ?_; rintro e u4 ⟨rfl, g⟩; have q4 := (g.block _ (lt_of_block q3)).trans q3; have K4 := chain K3 g; refine hK _ _ ⟨g, ?_⟩; clear hK K g
          try simp only [Act.put, List.setIfInBounds_toArray, List.set_cons_zero, List.set_cons_succ]
          refine g_take (i := 17) (d := (some 84)) (v := ?_) rfl rfl (by kernel_rfl) (fun _ _ _ h => h) (by rfl) (fun w' hb' => ?_) ?_
          rotate_left
          · (try go_simp); (try with_reducible rfl)
          try simp only [Act.put, List.setIfInBounds_toArray, List.set_cons_zero, List.set_cons_succ]
          refine g_skip (i := 18) (d := (some 85)) rfl rfl (by kernel_rfl) (fun _ _ _ h => h) (by rfl) ?_
          try simp only [Act.put, List.setIfInBounds_toArray, List.set_cons_zero, List.set_cons_succ]
          refine g_skip (i := 19) (d := (some 86)) rfl rfl (by kernel_rfl) (fun _ _ _ h => h) (by rfl) ?_
          try simp only [Act.put, List.setIfInBounds_toArray, List.set_cons_zero, List.set_cons_succ]
          refine g_skip (i := 20) (d := (some 87)) rfl rfl (by kernel_rfl) (fun _ _ _ h => h) (by rfl) ?_
          try simp only [Act.put, List.setIfInBounds_toArray, List.set_cons_zero, List.set_cons_succ]
          refine g_skip (i := 21) (d := (some 88)) rfl rfl (by kernel_rfl) (fun _ _ _ h => h) (by rfl) ?_
          try simp only [Act.put, List.setIfInBounds_toArray, List.set_cons_zero, List.set_cons_succ]
          refine g_take (i := 22) (d := (some 89)) (v := ?_) rfl rfl (by kernel_rfl) (fun _ _ _ h => h) (by rfl) (fun w' hb' => ?_) ?_
          rotate_left
          · (try go_simp); (try with_reducible rfl)
          try simp only [Act.put, List.setIfInBounds_toArray, List.set_cons_zero, List.set_cons_succ]
          refine g_take (i := 23) (d := (some 90)) (v := ?_) rfl rfl (by kernel_rfl) (fun _ _ _ h => h) (by rfl) (fun w' hb' => ?_) ?_
          rotate_left
          · (try go_simp); (try with_reducible rfl)
          try simp only [Act.put, List.setIfInBounds_toArray, List.set_cons_zero, List.set_cons_succ]
          refine g_take (i := 24) (d := (some 91)) (v := ?_) rfl rfl (by kernel_rfl) (fun _ _ _ h => h) (by rfl) (fun w' hb' => ?_) ?_
          rotate_left
          · (try go_simp); (try with_reducible rfl)
          try simp only [Act.put, List.setIfInBounds_toArray, List.set_cons_zero, List.set_cons_succ]
          refine g_take (i := 25) (d := (some 92)) (v := ?_) rfl rfl (by kernel_rfl) (fun _ _ _ h => h) (by rfl) (fun w' hb' => ?_) ?_
          rotate_left
          · (try go_simp); (try with_reducible rfl)
          try simp only [Act.put, List.setIfInBounds_toArray, List.set_cons_zero, List.set_cons_succ]
          refine g_take (i := 26) (d := (some 93)) (v := ?_) rfl rfl (by kernel_rfl) (fun _ _ _ h => h) (by rfl) (fun w' hb' => ?_) ?_
          rotate_left
          · (try go_simp); (try with_reducible rfl)
          try simp only [Act.put, List.setIfInBounds_toArray, List.set_cons_zero, List.set_cons_succ]
          refine g_take (i := 28) (d := (some 95)) (v := ?_) rfl rfl (by kernel_rfl) (fun _ _ _ h => h) (by rfl) (fun w' hb' => ?_) ?_
          rotate_left
          · (try go_simp); (try with_reducible rfl)
          try simp only [Act.put, List.setIfInBounds_toArray, List.set_cons_zero, List.set_cons_succ]
          refine g_run (i := 27) rfl (by kernel_rfl) (by rfl) (fun K hK => ?_)
          go_simp; refine (DU.out _).mono ?_; rintro e w9 ⟨rfl, rfl⟩; refine hK _ _ ⟨Below.refl _ _, ?_⟩; clear hK K
          try simp only [Act.put, List.setIfInBounds_toArray, List.set_cons_zero, List.set_cons_succ]
          refine g_run (i := 29) rfl (by kernel_rfl) (by rfl) (fun K hK => ?_)
          go_simp; refine (RD.out _).mono ?_; rintro e w9 ⟨rfl, rfl⟩; refine hK _ _ ⟨Below.refl _ _, ?_⟩; clear hK K
          try simp only [Act.put, List.setIfInBounds_toArray, List.set_cons_zero, List.set_cons_succ]
          refine g_take (i := 30) (d := (some 97)) (v := ?_) rfl rfl (by kernel_rfl) (fun _ _ _ h => h) (by rfl) (fun w' hb' => ?_) ?_
          rotate_left
          · (try go_simp); (try with_reducible rfl)
          try simp only [Act.put, List.setIfInBounds_toArray, List.set_cons_zero, List.set_cons_succ]
          refine g_take (i := 31) (d := (some 98)) (v := ?_) rfl rfl (by kernel_rfl) (fun _ _ _ h => h) (by rfl) (fun w' hb' => ?_) ?_
          rotate_left
          · (try go_simp); (try with_reducible rfl)
          try simp only [Act.put, List.setIfInBounds_toArray, List.set_cons_zero, List.set_cons_succ]
          refine g_take (i := 32) (d := (some 99)) (v := ?_) rfl rfl (by kernel_rfl) (fun _ _ _ h => h) (by rfl) (fun w' hb' => ?_) ?_
          rotate_left
          · (try go_simp); (try with_reducible rfl)
          try simp only [Act.put, List.setIfInBounds_toArray, List.set_cons_zero, List.set_cons_succ]
          refine g_run (i := 33) rfl (by kernel_rfl) (by rfl) (fun K hK => ?_)
          go_simp; refine (AW.out _).mono ?_; rintro e u5 ⟨rfl, g⟩; have q5 := (g.block _ (lt_of_block q4)).trans q4; have K5 := chain K4 g; refine hK _ _ ⟨g, ?_⟩; clear hK K g
          try simp only [Act.put, List.setIfInBounds_toArray, List.set_cons_zero, List.set_cons_succ]
          refine g_take (i := 34) (d := (some 101)) (v := ?_) rfl rfl (by kernel_rfl) (fun _ _ _ h => h) (by rfl) (fun w' hb' => ?_) ?_
          rotate_left
          · (try go_simp); (try with_reducible rfl)
          try simp only [Act.put, List.setIfInBounds_toArray, List.set_cons_zero, List.set_cons_succ]
          refine g_take (i := 35) (d := (some 6)) (v := ?_) rfl rfl (by kernel_rfl) (fun _ _ _ h => h) (by rfl) (fun w' hb' => ?_) ?_
          rotate_left
          · (try go_simp); (try with_reducible rfl)
          try simp only [Act.put, List.setIfInBounds_toArray, List.set_cons_zero, List.set_cons_succ]
          refine g_done (by kernel_rfl) ?_
          go_wp2_with fail
          go_ret
          exact ⟨rfl, chain B1 K5⟩
    | true =>
      have WI := Lib.hid (WI0 (HM0 rfl))
      have HVM1 : V = sayM l seq tm := HVM.out
      by_cases hlt : i < l.length
      · have hiz : (i : Int) < (l.length : Int) := by omega
        have HIZ := Lib.hid hiz
        obtain ⟨pb, po, hao, hpb, D0, D1, D2⟩ := rdt_cells HR2.out i hlt
        subst hao
        have hup := say_up (seq := seq) (tm := tm) hlt
        have hat := fun h => say_at (seq := seq) (tm := tm) hlt h
        rw [← HVM1] at hat
        obtain ⟨x, hx⟩ : ∃ x, x = l[i] := ⟨_, rfl⟩
        rw [← hx] at D0 D1 D2 hup hat
        obtain ⟨a, b, c⟩ := x
        have hcu : cntT true l seq tm (i + 1) = (sayM (l.take (i + 1)) seq tm).length := rfl
        have hck : cntT true l seq tm i = (sayM (l.take i) seq tm).length := rfl
        rw [hup] at hcu
        unfold mat at hcu hat
        simp only at D0 D1 D2 hcu hat
        replace D0 := (BI.cell (p := ⟨pb, po + i * 3, none⟩) hpb).trans D0
        replace D1 := (BI.cell (p := ⟨pb, po + i * 3 + 1, none⟩) hpb).trans D1
        replace D2 := (BI.cell (p := ⟨pb, po + i * 3 + 2, none⟩) hpb).trans D2
        have hpw := Nat.lt_of_lt_of_le hpb BI.size
        clear hx hup hpb
        have ARMB := MB
        by_cases h1 : b = seq
        · have g1 : (b == seq) = true := by simpa using h1
          by_cases h2 : c = tm
          · have g2 : (c == tm) = true := by simpa using h2
            rw [decide_eq_true h1, decide_eq_true h2] at hcu
            obtain ⟨hkl, hvk⟩ := hat (by rw [decide_eq_true h1, decide_eq_true h2]; rfl)
            rw [if_pos (show (true && true) = true from rfl), List.length_append] at hcu
            obtain ⟨k, hk⟩ : ∃ k, k = (sayM (l.take i) seq tm).length := ⟨_, rfl⟩
            have hkb : k ≤ 260 := by rw [hk]; have := say_len (l.take i) seq tm; rw [List.length_take] at this; omega
            rw [hck]
            simp only [← hk] at hcu hkl hvk ⊢
            have HU := Lib.hid (show cntT true l seq tm (i + 1) = k + 1 from hcu)
            have hov := HOV.out
            obtain ⟨gv, hgv⟩ : ∃ gv, av = some ⟨gv, 0, none⟩ := by
              rcases hov.2 with ⟨h1, h2⟩ | ⟨g, cap, cur, h1, _⟩
              · omega
              · injection h1 with h1; exact ⟨g, h1⟩
            subst hgv
            have hv0 : ∀ j, j < 5 → w2.cell? ⟨gv, k * 5 + j, none⟩ = (smC ⟨a, 5, 0, seq, tm⟩)[j]? := fun j hj => by
              rw [hov.cellAt (k * 5 + j) (by omega), flat_get smC_len V k j hkl hj, hvk]
            have hgv2 : gv < w2.heap.size := (hov.lt gv rfl).2
            have V0 := (BI.cell (p := ⟨gv, k * 5, none⟩) hgv2).trans (hv0 0 (by omega))
            have V1 := (BI.cell (p := ⟨gv, k * 5 + 1, none⟩) hgv2).trans (hv0 1 (by omega))
            have V2 := (BI.cell (p := ⟨gv, k * 5 + 2, none⟩) hgv2).trans (hv0 2 (by omega))
            have V3 := (BI.cell (p := ⟨gv, k * 5 + 3, none⟩) hgv2).trans (hv0 3 (by omega))
            have V4 := (BI.cell (p := ⟨gv, k * 5 + 4, none⟩) hgv2).trans (hv0 4 (by omega))
            simp only [smC, List.getElem?_cons_succ, List.getElem?_cons_zero] at V0 V1 V2 V3 V4
            have hgv : gv < wr.heap.size := Nat.lt_of_lt_of_le hgv2 BI.size
            have HKV := Lib.hid (show (k : Int) < (V.length : Int) by omega)
            have HKZ := Lib.hid (show ¬ ((V.length : Int) ≤ (k : Int)) by omega)
            have HKD := Lib.hid (show decide ((V.length : Int) ≤ (k : Int)) = false by simp; omega)
            have HKN := Lib.hid (show decide (V.length ≤ k) = false by simp; omega)
            clear h1 h2 hcu hat hkl hvk hck hv0 hov hk hgv2 HVM HVM1
            as_aux_lemma =>
              go_wp2_with (((with_reducible refine (MB.out _ K0).mono ?_); rintro e u9 ⟨rfl, g⟩; (replace q0 := (g.block _ (lt_of_block q0)).trans q0); (replace K0 := chain K0 g); (replace BI := chain BI g); (replace D0 := (g.cell (p := ⟨pb, po + i * 3, none⟩) hpw).trans D0); (replace D1 := (g.cell (p := ⟨pb, po + i * 3 + 1, none⟩) hpw).trans D1); (replace D2 := (g.cell (p := ⟨pb, po + i * 3 + 2, none⟩) hpw).trans D2); (replace V0 := (g.cell (p := ⟨gv, k * 5, none⟩) hgv).trans V0); (replace V1 := (g.cell (p := ⟨gv, k * 5 + 1, none⟩) hgv).trans V1); (replace V2 := (g.cell (p := ⟨gv, k * 5 + 2, none⟩) hgv).trans V2); (replace V3 := (g.cell (p := ⟨gv, k * 5 + 3, none⟩) hgv).trans V3); (replace V4 := (g.cell (p := ⟨gv, k * 5 + 4, none⟩) hgv).trans V4); (have hpx := Nat.lt_of_lt_of_le hpw g.size); (replace hgv := Nat.lt_of_lt_of_le hgv g.size); clear g d0 d1 d2 df; (obtain ⟨d0, d1, d2, df⟩ := block_cells3 q0)))
              clear d0 d1 d2 df hiz
              replace q0 := show u9.drew.heap[w.heap.size]? = _ from q0
              replace V0 := show u9.drew.cell? _ = _ from V0
              replace V1 := show u9.drew.cell? _ = _ from V1
              replace V2 := show u9.drew.cell? _ = _ from V2
              replace V3 := show u9.drew.cell? _ = _ from V3
              replace V4 := show u9.drew.cell? _ = _ from V4
              replace D0 := show u9.drew.cell? _ = _ from D0
              replace hgv := show gv < u9.drew.heap.size from hgv
              replace hpx := show pb < u9.drew.heap.size from hpx
              refine g_start (by kernel_rfl) ?_
              refine g_take (i := 0) (d := (some 45)) (v := ?_) rfl rfl (by kernel_rfl) (fun _ _ _ h => h) (by rfl) (fun w' hb' => ?_) ?_
              rotate_left
              · (try go_simp); (try with_reducible rfl)
              try simp only [Act.put, List.setIfInBounds_toArray, List.set_cons_zero, List.set_cons_succ]
              refine g_take (i := 1) (d := (some 46)) (v := ?_) rfl rfl (by kernel_rfl) (fun _ _ _ h => h) (by rfl) (fun w' hb' => ?_) ?_
              rotate_left
              · (try go_simp); (try with_reducible rfl)
              try simp only [Act.put, List.setIfInBounds_toArray, List.set_cons_zero, List.set_cons_succ]
              refine g_take (i := 2) (d := (some 47)) (v := ?_) rfl rfl (by kernel_rfl) (fun _ _ _ h => h) (by rfl) (fun w' hb' => ?_) ?_
              rotate_left
              · (try go_simp); (try with_reducible rfl)
              try simp only [Act.put, List.setIfInBounds_toArray, List.set_cons_zero, List.set_cons_succ]
              refine g_take (i := 3) (d := (some 48)) (v := ?_) rfl rfl (by kernel_rfl) (fun _ _ _ h => h) (by rfl) (fun w' hb' => ?_) ?_
              rotate_left
              · have hkd := HKD.out; have hkn := HKN.out; (try go_simp); (try with_reducible rfl)
              try simp only [Act.put, List.setIfInBounds_toArray, List.set_cons_zero, List.set_cons_succ]
              refine g_take (i := 4) (d := (some 49)) (v := ?_) rfl rfl (by kernel_rfl) (fun _ _ _ h => h) (by rfl) (fun w' hb' => ?_) ?_
              rotate_left
              · (try go_simp); (try with_reducible rfl)
              try simp only [Act.put, List.setIfInBounds_toArray, List.set_cons_zero, List.set_cons_succ]
              refine g_take (i := 5) (d := (some 50)) (v := ?_) rfl rfl (by kernel_rfl) (fun _ _ _ h => h) (by rfl) (fun w' hb' => ?_) ?_
              rotate_left
              · (try go_simp); (try with_reducible rfl)
              try simp only [Act.put, List.setIfInBounds_toArray, List.set_cons_zero, List.set_cons_succ]
              refine g_take (i := 6) (d := (some 51)) (v := ?_) rfl rfl (by kernel_rfl) (fun _ _ _ h => h) (by rfl) (fun w' hb' => ?_) ?_
              rotate_left
              · (try go_simp); (try with_reducible rfl)
              try simp only [Act.put, List.setIfInBounds_toArray, List.set_cons_zero, List.set_cons_succ]
              refine g_take (i := 7) (d := (some 52)) (v := ?_) rfl rfl (by kernel_rfl) (fun _ _ _ h => h) (by rfl) (fun w' hb' => ?_) ?_
              rotate_left
              · have hkv := HKV.out; have hkz := HKZ.out; (try go_simp); (try with_reducible rfl)
              try simp only [Act.put, List.setIfInBounds_toArray, List.set_cons_zero, List.set_cons_succ]
              refine g_take (i := 8) (d := (some 53)) (v := ?_) rfl rfl (by kernel_rfl) (fun _ _ _ h => h) (by rfl) (fun w' hb' => ?_) ?_
              rotate_left
              · have c0 := (hb'.cell (p := ⟨gv, k * 5, none⟩) hgv).trans V0; have c1 := (hb'.cell (p := ⟨gv, k * 5 + 1, none⟩) hgv).trans V1; have c2 := (hb'.cell (p := ⟨gv, k * 5 + 2, none⟩) hgv).trans V2; have c3 := (hb'.cell (p := ⟨gv, k * 5 + 3, none⟩) hgv).trans V3; have c4 := (hb'.cell (p := ⟨gv, k * 5 + 4, none⟩) hgv).trans V4; (try go_simp); (try with_reducible rfl)
              try simp only [Act.put, List.setIfInBounds_toArray, List.set_cons_zero, List.set_cons_succ]
              refine g_take (i := 9) (d := (some 54)) (v := ?_) rfl rfl (by kernel_rfl) (fun _ _ _ h => h) (by rfl) (fun w' hb' => ?_) ?_
              rotate_left
              · (try go_simp); (try with_reducible rfl)
              try simp only [Act.put, List.setIfInBounds_toArray, List.set_cons_zero, List.set_cons_succ]
              refine g_take (i := 10) (d := (some 55)) (v := ?_) rfl rfl (by kernel_rfl) (fun _ _ _ h => h) (by rfl) (fun w' hb' => ?_) ?_
              rotate_left
              · obtain ⟨d0, d1, d2, df⟩ := block_cells3 ((hb'.block _ (lt_of_block q0)).trans q0); (try go_simp); (try with_reducible rfl)
              try simp only [Act.put, List.setIfInBounds_toArray, List.set_cons_zero, List.set_cons_succ]
              refine g_take (i := 11) (d := (some 56)) (v := ?_) rfl rfl (by kernel_rfl) (fun _ _ _ h => h) (by rfl) (fun w' hb' => ?_) ?_
              rotate_left
              · (try go_simp); (try with_reducible rfl)
              try simp only [Act.put, List.setIfInBounds_toArray, List.set_cons_zero, List.set_cons_succ]
              refine g_take (i := 12) (d := (some 57)) (v := ?_) rfl rfl (by kernel_rfl) (fun _ _ _ h => h) (by rfl) (fun w' hb' => ?_) ?_
              rotate_left
              · have hiz := HIZ.out; (try go_simp); (try with_reducible rfl)
              try simp only [Act.put, List.setIfInBounds_toArray, List.set_cons_zero, List.set_cons_succ]
              refine g_take (i := 13) (d := (some 58)) (v := ?_) rfl rfl (by kernel_rfl) (fun _ _ _ h => h) (by rfl) (fun w' hb' => ?_) ?_
              rotate_left
              · (try go_simp); (try with_reducible rfl)
              try simp only [Act.put, List.setIfInBounds_toArray, List.set_cons_zero, List.set_cons_succ]
              refine g_take (i := 14) (d := (some 59)) (v := ?_) rfl rfl (by kernel_rfl) (fun _ _ _ h => h) (by rfl) (fun w' hb' => ?_) ?_
              rotate_left
              · have c0 := (hb'.cell (p := ⟨pb, po + i * 3, none⟩) hpx).trans D0; (try go_simp); (try with_reducible rfl)
              try simp only [Act.put, List.setIfInBounds_toArray, List.set_cons_zero, List.set_cons_succ]
              refine g_take (i := 15) (d := (some 60)) (v := ?_) rfl rfl (by kernel_rfl) (fun _ _ _ h => h) (by rfl) (fun w' hb' => ?_) ?_
              rotate_left
              · (try go_simp); (try with_reducible rfl)
              try simp only [Act.put, List.setIfInBounds_toArray, List.set_cons_zero, List.set_cons_succ]
              refine g_take (i := 16) (d := (some 61)) (v := ?_) rfl rfl (by kernel_rfl) (fun _ _ _ h => h) (by rfl) (fun w' hb' => ?_) ?_
              rotate_left
              · (try go_simp); (try with_reducible rfl)
              try simp only [Act.put, List.setIfInBounds_toArray, List.set_cons_zero, List.set_cons_succ]
              refine g_run (i := 17) rfl (by kernel_rfl) (by rfl) (fun K hK => ?_)
              go_simp; refine hK _ _ ⟨Below.refl _ _, ?_⟩; clear hK K
              try simp only [Act.put, List.setIfInBounds_toArray, List.set_cons_zero, List.set_cons_succ]
              refine g_take (i := 18) (d := (some 63)) (v := ?_) rfl rfl (by kernel_rfl) (fun _ _ _ h => h) (by rfl) (fun w' hb' => ?_) ?_
              rotate_left
              · (try go_simp); (try with_reducible rfl)
              try simp only [Act.put, List.setIfInBounds_toArray, List.set_cons_zero, List.set_cons_succ]
              refine g_take (i := 19) (d := (some 64)) (v := ?_) rfl rfl (by kernel_rfl) (fun _ _ _ h => h) (by rfl) (fun w' hb' => ?_) ?_
              rotate_left
              · (try go_simp); (try with_reducible rfl)
              try simp only [Act.put, List.setIfInBounds_toArray, List.set_cons_zero, List.set_cons_succ]
              refine g_done (by kernel_rfl) ?_
              go_wp2_with fail
              exact ⟨⟨i + 1, by omega, by push_cast; rfl, by rw [HU.out]; push_cast; rfl, BI.drew⟩, by simp [intOf]; omega⟩
          · have g2 : (c == tm) = false := by simpa using h2
            rw [decide_eq_false h2, Bool.and_false, if_neg (by decide)] at hcu
            have HU := Lib.hid (hcu.trans hck.symm)
            clear h1 h2 hcu hat hck HVM HVM1
            go_wp2_with (((with_reducible refine (MB.out _ K0).mono ?_); rintro e u9 ⟨rfl, g⟩; (replace q0 := (g.block _ (lt_of_block q0)).trans q0); (replace K0 := chain K0 g); (replace BI := chain BI g); (replace D0 := (g.cell (p := ⟨pb, po + i * 3, none⟩) hpw).trans D0); (replace D1 := (g.cell (p := ⟨pb, po + i * 3 + 1, none⟩) hpw).trans D1); (replace D2 := (g.cell (p := ⟨pb, po + i * 3 + 2, none⟩) hpw).trans D2); clear g d0 d1 d2 df; (obtain ⟨d0, d1, d2, df⟩ := block_cells3 q0)))
            exact ⟨⟨i + 1, by omega, by push_cast; rfl, by rw [HU.out], BI⟩, by simp [intOf]; omega⟩
        · have g1 : (b == seq) = false := by simpa using h1
          rw [decide_eq_false h1, Bool.false_and, if_neg (by decide)] at hcu
          have HU := Lib.hid (hcu.trans hck.symm)
          clear h1 hcu hat hck HVM HVM1
          go_wp2_with (((with_reducible refine (MB.out _ K0).mono ?_); rintro e u9 ⟨rfl, g⟩; (replace q0 := (g.block _ (lt_of_block q0)).trans q0); (replace K0 := chain K0 g); (replace BI := chain BI g); (replace D0 := (g.cell (p := ⟨pb, po + i * 3, none⟩) hpw).trans D0); (replace D1 := (g.cell (p := ⟨pb, po + i * 3 + 1, none⟩) hpw).trans D1); (replace D2 := (g.cell (p := ⟨pb, po + i * 3 + 2, none⟩) hpw).trans D2); clear g d0 d1 d2 df; (obtain ⟨d0, d1, d2, df⟩ := block_cells3 q0)))
          exact ⟨⟨i + 1, by omega, by push_cast; rfl, by rw [HU.out], BI⟩, by simp [intOf]; omega⟩
      · obtain rfl : i = l.length := by omega
        have hc : cntT true l seq tm l.length = V.length := by show (sayM (l.take l.length) seq tm).length = _; rw [List.take_length, HVM1]
        rw [hc]
        have GLN := Lib.hid (show (((V.length : Nat) : Int) == (V.length : Int)) = true by simp)
        have hiz : ¬ ((l.length : Int) < (l.length : Int)) := by omega
        clear hc HVM HVM1
        as_aux_lemma =>
          go_wp2_with fail
          clear d0 d1 d2 df
          replace q0 := show wr.drew.heap[w.heap.size]? = _ from q0
          replace K0 := K0.drew
          refine g_start (by kernel_rfl) ?_
          refine g_take (i := 0) (d := (some 67)) (v := ?_) rfl rfl (by kernel_rfl) (fun _ _ _ h => h) (by rfl) (fun w' hb' => ?_) ?_
          rotate_left
          · (try go_simp); (try with_reducible rfl)
          try simp only [Act.put, List.setIfInBounds_toArray, List.set_cons_zero, List.set_cons_succ]
          refine g_take (i := 1) (d := (some 68)) (v := ?_) rfl rfl (by kernel_rfl) (fun _ _ _ h => h) (by rfl) (fun w' hb' => ?_) ?_
          rotate_left
          · (try go_simp); (try with_reducible rfl)
          try simp only [Act.put, List.setIfInBounds_toArray, List.set_cons_zero, List.set_cons_succ]
          refine g_take (i := 2) (d := (some 69)) (v := ?_) rfl rfl (by kernel_rfl) (fun _ _ _ h => h) (by rfl) (fun w' hb' => ?_) ?_
          rotate_left
          · (try go_simp); (try with_reducible rfl)
          try simp only [Act.put, List.setIfInBounds_toArray, List.set_cons_zero, List.set_cons_succ]
          refine g_take (i := 3) (d := (some 70)) (v := ?_) rfl rfl (by kernel_rfl) (fun _ _ _ h => h) (by rfl) (fun w' hb' => ?_) ?_
          rotate_left
          · have gln := GLN.out; (try go_simp); (try with_reducible rfl)
          try simp only [Act.put, List.setIfInBounds_toArray, List.set_cons_zero, List.set_cons_succ]
          refine g_take (i := 4) (d := (some 71)) (v := ?_) rfl rfl (by kernel_rfl) (fun _ _ _ h => h) (by rfl) (fun w' hb' => ?_) ?_
          rotate_left
          · (try go_simp); (try with_reducible rfl)
          try simp only [Act.put, List.setIfInBounds_toArray, List.set_cons_zero, List.set_cons_succ]
          refine g_take (i := 5) (d := (some 72)) (v := ?_) rfl rfl (by kernel_rfl) (fun _ _ _ h => h) (by rfl) (fun w' hb' => ?_) ?_
          rotate_left
          · obtain ⟨d0, d1, d2, df⟩ := block_cells3 ((hb'.block _ (lt_of_block q0)).trans q0); (try go_simp); (try with_reducible rfl)
          try simp only [Act.put, List.setIfInBounds_toArray, List.set_cons_zero, List.set_cons_succ]
          refine g_take (i := 7) (d := (some 74)) (v := ?_) rfl rfl (by kernel_rfl) (fun _ _ _ h => h) (by rfl) (fun w' hb' => ?_) ?_
          rotate_left
          · obtain ⟨d0, d1, d2, df⟩ := block_cells3 ((hb'.block _ (lt_of_block q0)).trans q0); (try go_simp); (try with_reducible rfl)
          try simp only [Act.put, List.setIfInBounds_toArray, List.set_cons_zero, List.set_cons_succ]
          refine g_run (i := 6) rfl (by kernel_rfl) (by rfl) (fun K hK => ?_)
          go_simp; refine (MA.out _ K0).mono ?_; rintro e u1 ⟨rfl, g⟩; have q1 := (g.block _ (lt_of_block q0)).trans q0; have K1 := chain K0 g; refine hK _ _ ⟨g, ?_⟩; clear hK K g
          try simp only [Act.put, List.setIfInBounds_toArray, List.set_cons_zero, List.set_cons_succ]
          refine g_run (i := 8) rfl (by kernel_rfl) (by rfl) (fun K hK => ?_)
          go_simp; refine (MB.out _ K1).mono ?_; rintro e u2 ⟨rfl, g⟩; have q2 := (g.block _ (lt_of_block q1)).trans q1; have K2 := chain K1 g; refine hK _ _ ⟨g, ?_⟩; clear hK K g
          try simp only [Act.put, List.setIfInBounds_toArray, List.set_cons_zero, List.set_cons_succ]
          refine g_take (i := 9) (d := (some 76)) (v := ?_) rfl rfl (by kernel_rfl) (fun _ _ _ h => h) (by rfl) (fun w' hb' => ?_) ?_
          rotate_left
          · (try go_simp); (try with_reducible rfl)
          try simp only [Act.put, List.setIfInBounds_toArray, List.set_cons_zero, List.set_cons_succ]
          refine g_take (i := 10) (d := (some 77)) (v := ?_) rfl rfl (by kernel_rfl) (fun _ _ _ h => h) (by rfl) (fun w' hb' => ?_) ?_
          rotate_left
          · (try go_simp); (try with_reducible rfl)
          try simp only [Act.put, List.setIfInBounds_toArray, List.set_cons_zero, List.set_cons_succ]
          refine g_take (i := 11) (d := (some 78)) (v := ?_) rfl rfl (by kernel_rfl) (fun _ _ _ h => h) (by rfl) (fun w' hb' => ?_) ?_
          rotate_left
          · (try go_simp); (try with_reducible rfl)
          try simp only [Act.put, List.setIfInBounds_toArray, List.set_cons_zero, List.set_cons_succ]
          refine g_take (i := 12) (d := (some 79)) (v := ?_) rfl rfl (by kernel_rfl) (fun _ _ _ h => h) (by rfl) (fun w' hb' => ?_) ?_
          rotate_left
          · obtain ⟨d0, d1, d2, df⟩ := block_cells3 ((hb'.block _ (lt_of_block q2)).trans q2); (try go_simp); (try with_reducible rfl)
          try simp only [Act.put, List.setIfInBounds_toArray, List.set_cons_zero, List.set_cons_succ]
          refine g_take (i := 13) (d := (some 80)) (v := ?_) rfl rfl (by kernel_rfl) (fun _ _ _ h => h) (by rfl) (fun w' hb' => ?_) ?_
          rotate_left
          · (try go_simp); (try with_reducible rfl)
          try simp only [Act.put, List.setIfInBounds_toArray, List.set_cons_zero, List.set_cons_succ]
          refine g_take (i := 15) (d := (some 82)) (v := ?_) rfl rfl (by kernel_rfl) (fun _ _ _ h => h) (by rfl) (fun w' hb' => ?_) ?_
          rotate_left
          · obtain ⟨d0, d1, d2, df⟩ := block_cells3 ((hb'.block _ (lt_of_block q2)).trans q2); (try go_simp); (try with_reducible rfl)
          try simp only [Act.put, List.setIfInBounds_toArray, List.set_cons_zero, List.set_cons_succ]
          refine g_run (i := 14) rfl (by kernel_rfl) (by rfl) (fun K hK => ?_)
          go_simp; refine (IN.out _ K2).mono ?_; rintro e u3 ⟨rfl, g⟩; have q3 := (g.block _ (lt_of_block q2)).trans q2; have K3 := chain K2 g; refine hK _ _ ⟨g, ?_⟩; clear hK K g
          try simp only [Act.put, List.setIfInBounds_toArray, List.set_cons_zero, List.set_cons_succ]
          refine g_run (i := 16) rfl (by kernel_rfl) (by rfl) (fun K hK => ?_)
          go_simp; refine (MB.out _ K3).mono ?_; rintro e u4 ⟨rfl, g⟩; have q4 := (g.block _ (lt_of_block q3)).trans q3; have K4 := chain K3 g; refine hK _ _ ⟨g, ?_⟩; clear hK K g
          try simp only [Act.put, List.setIfInBounds_toArray, List.set_cons_zero, List.set_cons_succ]
          refine g_take (i := 17) (d := (some 84)) (v := ?_) rfl rfl (by kernel_rfl) (fun _ _ _ h => h) (by rfl) (fun w' hb' => ?_) ?_
          rotate_left
          · (try go_simp); (try with_reducible rfl)
          try simp only [Act.put, List.setIfInBounds_toArray, List.set_cons_zero, List.set_cons_succ]
          refine g_take (i := 18) (d := (some 85)) (v := ?_) rfl rfl (by kernel_rfl) (fun _ _ _ h => h) (by rfl) (fun w' hb' => ?_) ?_
          rotate_left
          · (try go_simp); (try with_reducible rfl)
          try simp only [Act.put, List.setIfInBounds_toArray, List.set_cons_zero, List.set_cons_succ]
          refine g_take (i := 19) (d := (some 86)) (v := ?_) rfl rfl (by kernel_rfl) (fun _ _ _ h => h) (by rfl) (fun w' hb' => ?_) ?_
          rotate_left
          · obtain ⟨d0, d1, d2, df⟩ := block_cells3 ((hb'.block _ (lt_of_block q4)).trans q4); (try go_simp); (try with_reducible rfl)
          try simp only [Act.put, List.setIfInBounds_toArray, List.set_cons_zero, List.set_cons_succ]
          refine g_take (i := 20) (d := (some 87)) (v := ?_) rfl rfl (by kernel_rfl) (fun _ _ _ h => h) (by rfl) (fun w' hb' => ?_) ?_
          rotate_left
          · (try go_simp); (try with_reducible rfl)
          try simp only [Act.put, List.setIfInBounds_toArray, List.set_cons_zero, List.set_cons_succ]
          refine g_run (i := 21) rfl (by kernel_rfl) (by rfl) (fun K hK => ?_)
          go_simp; refine (WI.out _).mono ?_; rintro e w9 ⟨rfl, rfl⟩; refine hK _ _ ⟨Below.refl _ _, ?_⟩; clear hK K
          try simp only [Act.put, List.setIfInBounds_toArray, List.set_cons_zero, List.set_cons_succ]
          refine g_take (i := 22) (d := (some 89)) (v := ?_) rfl rfl (by kernel_rfl) (fun _ _ _ h => h) (by rfl) (fun w' hb' => ?_) ?_
          rotate_left
          · (try go_simp); (try with_reducible rfl)
          try simp only [Act.put, List.setIfInBounds_toArray, List.set_cons_zero, List.set_cons_succ]
          refine g_take (i := 23) (d := (some 90)) (v := ?_) rfl rfl (by kernel_rfl) (fun _ _ _ h => h) (by rfl) (fun w' hb' => ?_) ?_
          rotate_left
          · (try go_simp); (try with_reducible rfl)
          try simp only [Act.put, List.setIfInBounds_toArray, List.set_cons_zero, List.set_cons_succ]
          refine g_take (i := 24) (d := (some 91)) (v := ?_) rfl rfl (by kernel_rfl) (fun _ _ _ h => h) (by rfl) (fun w' hb' => ?_) ?_
          rotate_left
          · (try go_simp); (try with_reducible rfl)
          try simp only [Act.put, List.setIfInBounds_toArray, List.set_cons_zero, List.set_cons_succ]
          refine g_take (i := 25) (d := (some 92)) (v := ?_) rfl rfl (by kernel_rfl) (fun _ _ _ h => h) (by rfl) (fun w' hb' => ?_) ?_
          rotate_left
          · (try go_simp); (try with_reducible rfl)
          try simp only [Act.put, List.setIfInBounds_toArray, List.set_cons_zero, List.set_cons_succ]
          refine g_take (i := 26) (d := (some 93)) (v := ?_) rfl rfl (by kernel_rfl) (fun _ _ _ h => h) (by rfl) (fun w' hb' => ?_) ?_
          rotate_left
          · (try go_simp); (try with_reducible rfl)
          try simp only [Act.put, List.setIfInBounds_toArray, List.set_cons_zero, List.set_cons_succ]
          refine g_take (i := 28) (d := (some 95)) (v := ?_) rfl rfl (by kernel_rfl) (fun _ _ _ h => h) (by rfl) (fun w' hb' => ?_) ?_
          rotate_left
          · (try go_simp); (try with_reducible rfl)
          try simp only [Act.put, List.setIfInBounds_toArray, List.set_cons_zero, List.set_cons_succ]
          refine g_run (i := 27) rfl (by kernel_rfl) (by rfl) (fun K hK => ?_)
          go_simp; refine (DU.out _).mono ?_; rintro e w9 ⟨rfl, rfl⟩; refine hK _ _ ⟨Below.refl _ _, ?_⟩; clear hK K
          try simp only [Act.put, List.setIfInBounds_toArray, List.set_cons_zero, List.set_cons_succ]
          refine g_run (i := 29) rfl (by kernel_rfl) (by rfl) (fun K hK => ?_)
          go_simp; refine (RD.out _).mono ?_; rintro e w9 ⟨rfl, rfl⟩; refine hK _ _ ⟨Below.refl _ _, ?_⟩; clear hK K
          try simp only [Act.put, List.setIfInBounds_toArray, List.set_cons_zero, List.set_cons_succ]
          refine g_take (i := 30) (d := (some 97)) (v := ?_) rfl rfl (by kernel_rfl) (fun _ _ _ h => h) (by rfl) (fun w' hb' => ?_) ?_
          rotate_left
          · (try go_simp); (try with_reducible rfl)
          try simp only [Act.put, List.setIfInBounds_toArray, List.set_cons_zero, List.set_cons_succ]
          refine g_take (i := 31) (d := (some 98)) (v := ?_) rfl rfl (by kernel_rfl) (fun _ _ _ h => h) (by rfl) (fun w' hb' => ?_) ?_
          rotate_left
          · (try go_simp); (try with_reducible rfl)
          try simp only [Act.put, List.setIfInBounds_toArray, List.set_cons_zero, List.set_cons_succ]
          refine g_take (i := 32) (d := (some 99)) (v := ?_) rfl rfl (by kernel_rfl) (fun _ _ _ h => h) (by rfl) (fun w' hb' => ?_) ?_
          rotate_left
          · (try go_simp); (try with_reducible rfl)
          try simp only [Act.put, List.setIfInBounds_toArray, List.set_cons_zero, List.set_cons_succ]
          refine g_run (i := 33) rfl (by kernel_rfl) (by rfl) (fun K hK => ?_)
          go_simp; refine (AW.out _).mono ?_; rintro e u5 ⟨rfl, g⟩; have q5 := (g.block _ (lt_of_block q4)).trans q4; have K5 := chain K4 g; refine hK _ _ ⟨g, ?_⟩; clear hK K g
          try simp only [Act.put, List.setIfInBounds_toArray, List.set_cons_zero, List.set_cons_succ]
          refine g_take (i := 34) (d := (some 101)) (v := ?_) rfl rfl (by kernel_rfl) (fun _ _ _ h => h) (by rfl) (fun w' hb' => ?_) ?_
          rotate_left
          · (try go_simp); (try with_reducible rfl)
          try simp only [Act.put, List.setIfInBounds_toArray, List.set_cons_zero, List.set_cons_succ]
          refine g_take (i := 35) (d := (some 6)) (v := ?_) rfl rfl (by kernel_rfl) (fun _ _ _ h => h) (by rfl) (fun w' hb' => ?_) ?_
          rotate_left
          · (try go_simp); (try with_reducible rfl)
          try simp only [Act.put, List.setIfInBounds_toArray, List.set_cons_zero, List.set_cons_succ]
          refine g_done (by kernel_rfl) ?_
          go_wp2_with fail
          go_ret
          exact ⟨rfl, chain B1 K5⟩
/-- The law MarksTell, as its row has it. -/
theorem tells_row (m : Ms) (v : Value) (seq tm : Int) (w : World) (h : RdM w m v) (h1 : (Lit.int .i64 seq).wf = true) (h2 : (Lit.int .i64 tm).wf = true) : Calls Try.prog 3 #[mV m v, .int .i64 seq, .int .i64 tm] w fun e w' => e = .returned (.bool true) ∧ Below w.heap.size w w' :=
  tells_walk m v seq tm w h (by simp [Lit.wf, IntKind.min, IntKind.max, IntKind.signed, IntKind.bits] at h1; omega)
end Go.Proofs.Ytgmblgpfgdfnaaa
