/- Stores: Same, New, Room, Scan. Written by wip/tools/gen13g.py. -/
/- Builds of structs by an equation on what is built. -/
import Derived.Test.YtbdfcgffkonbiaaDoorQST35
import Derived.Test.YtbdfcgffkonbiaaDoorQST24
namespace Go.Proofs.YtbdfcgffkonbiaaDoor
open Go Go.RowKit
set_option linter.unusedVariables false
set_option linter.unusedSimpArgs false
noncomputable def sameS (s t : St) : Bool := decide (s.ver = t.ver) && decide (s.by_ = t.by_) && decide (s.ke = t.ke) && sameT s.lv t.lv s.vs t.vs
noncomputable def pSameS (s t : St) : Bool := mayS s && (decide (s.ver = t.ver) && decide (s.by_ = t.by_) && decide (s.ke = t.ke)) && tSame s.lv t.lv s.vs t.vs
theorem WfS_len {s : St} (h : mayS s = true) : ∀ b, b < 16 → (s.lv b).length ≤ 100 := fun b hb => Nat.le_trans (isL_len (isT (mayS_t h) hb)) (by decide)
set_option maxRecDepth 100000 in
set_option maxHeartbeats 1000000 in
theorem same13_any (ca cb : Array Value) (s t : St) (w : World) (ha : RdS w ca s) (hb : RdS w cb t) (h100 : ∀ b, b < 16 → (s.lv b).length ≤ 100) (h101 : ∀ b, b < 16 → (t.lv b).length ≤ 100) :
    Calls Tryd.prog 16 #[.agg ca, .agg cb] w fun e w' => e = .returned (.bool (sameS s t)) ∧ Below w.heap.size w w' := by
  have hsa := ha.size
  have hsb := hb.size
  obtain ⟨q2, q3, -, -⟩ := two_allocs w (.cells ca 28) (.cells cb 28)
  have bel : Below w.heap.size w ((w.alloc (.cells ca 28)).alloc (.cells cb 28)) := ((Below.refl _ w).alloc (Nat.le_refl _) _).alloc (by simp) _
  obtain ⟨W0, hW0⟩ : ∃ W0, W0 = (w.alloc (.cells ca 28)).alloc (.cells cb 28) := ⟨_, rfl⟩
  rw [← hW0] at q2 q3 bel
  have SM0 := tsameG_any (tC ca) (tC cb) s.lv t.lv s.vs t.vs W0 (ha.tr.below bel (Nat.le_refl _)) (hb.tr.below bel (Nat.le_refl _)) h100 h101
  have BW := Lib.hid bel
  have a1 := (block_cell q2 32).trans ha.ver
  have a2 := (block_cell q2 33).trans ha.by_
  have a3 := (block_cell q2 34).trans ha.ke
  have b1 := (block_cell q3 32).trans hb.ver
  have b2 := (block_cell q3 33).trans hb.by_
  have b3 := (block_cell q3 34).trans hb.ke
  clear ha hb bel
  subst hW0
  obtain ⟨lv, vs, V, B, K9⟩ := s
  obtain ⟨lv2, vs2, V2, B2, K2⟩ := t
  simp only [] at a1 a2 a3 b1 b2 b3 SM0
  obtain ⟨RS, hRS⟩ : ∃ R, R = sameT lv lv2 vs vs2 := ⟨_, rfl⟩
  rw [← hRS] at SM0
  have SM := Lib.hid SM0
  obtain ⟨R, hR⟩ : ∃ R, R = sameS ⟨lv, vs, V, B, K9⟩ ⟨lv2, vs2, V2, B2, K2⟩ := ⟨_, rfl⟩
  rw [← hR]
  have HR := Lib.hid (show R = (decide (V = V2) && decide (B = B2) && decide (K9 = K2) && RS) by rw [hR, hRS]; rfl)
  clear hR hRS SM0 h100 h101
  go_enter Tryd.func16, Tryd.ntmps16
  by_cases e0 : V = V2
  · have t0 : (V == V2) = true := beq_iff_eq.2 e0
    by_cases e1 : B = B2
    · have t1 : (B == B2) = true := beq_iff_eq.2 e1
      by_cases e2 : K9 = K2
      · have t2 : (K9 == K2) = true := beq_iff_eq.2 e2
        have E := Lib.hid (show R = RS by rw [HR.out, decide_eq_true e0, decide_eq_true e1, decide_eq_true e2]; rfl)
        clear e0 e1 e2
        go_wp2_with (first | ((with_reducible refine wpList_load_part_g (o := ⟨some 26, _, _, _, _, _⟩) ?_ 26 (.tmp 25) rfl _ 0 rfl (tC ca) _ (tC_range q2) Tryd.underlying26 rfl (tC_infoA hsa) ?_); rfl) | ((with_reducible refine wpList_load_part_g (o := ⟨some 28, _, _, _, _, _⟩) ?_ 26 (.tmp 27) rfl _ 0 rfl (tC cb) _ (tC_range q3) Tryd.underlying26 rfl (tC_infoA hsb) ?_); rfl))
        refine SM.out.mono ?_
        rintro e w1 ⟨rfl, g⟩
        have BF := Lib.hid (chain BW.out g)
        clear g SM
        go_wp2_with fail
        go_ret
        exact ⟨by rw [E.out]; rfl, BF.out⟩
      · have t2 : (K9 == K2) = false := beq_eq_false_iff_ne.2 e2
        have E := Lib.hid (show R = false by rw [HR.out, decide_eq_false e2]; simp)
        clear SM e0 e1 e2
        go_wp2_with fail
        go_ret
        exact ⟨by rw [E.out]; rfl, BW.out⟩
    · have t1 : (B == B2) = false := beq_eq_false_iff_ne.2 e1
      have E := Lib.hid (show R = false by rw [HR.out, decide_eq_false e1]; simp)
      clear SM e0 e1
      go_wp2_with fail
      go_ret
      exact ⟨by rw [E.out]; rfl, BW.out⟩
  · have t0 : (V == V2) = false := beq_eq_false_iff_ne.2 e0
    have E := Lib.hid (show R = false by rw [HR.out, decide_eq_false e0]; simp)
    clear SM e0
    go_wp2_with fail
    go_ret
    exact ⟨by rw [E.out]; rfl, BW.out⟩
set_option maxRecDepth 100000 in
set_option maxHeartbeats 1000000 in
theorem psame13_any (ca cb : Array Value) (s t : St) (w : World) (tab : TabAt w) (ha : RdS w ca s) (hb : RdS w cb t) (hsz : SzT s.lv) (hsz2 : SzT t.lv) (hwf : WfT s.lv) (h100 : ∀ b, b < 16 → (s.lv b).length ≤ 100) :
    Calls Tryd.prog 20 #[.agg ca, .agg cb] w fun e w' => e = .returned (.bool (pSameS s t)) ∧ Below w.heap.size w w' := by
  have hi := infoS ha.size
  have hsa := ha.size
  have hsb := hb.size
  obtain ⟨q2, q3, -, -⟩ := two_allocs w (.cells ca 28) (.cells cb 28)
  have bel : Below w.heap.size w ((w.alloc (.cells ca 28)).alloc (.cells cb 28)) := ((Below.refl _ w).alloc (Nat.le_refl _) _).alloc (by simp) _
  obtain ⟨W0, hW0⟩ : ∃ W0, W0 = (w.alloc (.cells ca 28)).alloc (.cells cb 28) := ⟨_, rfl⟩
  rw [← hW0] at q2 q3 bel
  have MY0 := may13_any ca s W0 (tab.below bel) (ha.below bel (Nat.le_refl _)) hsz hwf h100
  have SM0 := fun W (g : Below W0.heap.size W0 W) => psameT_any (tC ca) (tC cb) s.lv t.lv s.vs t.vs W (tab.below (chain bel g)) (ha.tr.below (chain bel g) (Nat.le_refl _)) (hb.tr.below (chain bel g) (Nat.le_refl _)) hsz hsz2
  have hpS : pSameS s t = (mayS s && (decide (s.ver = t.ver) && decide (s.by_ = t.by_) && decide (s.ke = t.ke)) && tSame s.lv t.lv s.vs t.vs) := rfl
  obtain ⟨MB, hMB⟩ : ∃ M, M = mayS s := ⟨_, rfl⟩
  rw [← hMB] at MY0 hpS
  obtain ⟨R, hR⟩ : ∃ R, R = pSameS s t := ⟨_, rfl⟩
  rw [← hR] at hpS ⊢
  clear hR hMB hsz hsz2 hwf h100 tab
  have BW := Lib.hid bel
  have a1 := (block_cell q2 32).trans ha.ver
  have a2 := (block_cell q2 33).trans ha.by_
  have a3 := (block_cell q2 34).trans ha.ke
  have b1 := (block_cell q3 32).trans hb.ver
  have b2 := (block_cell q3 33).trans hb.by_
  have b3 := (block_cell q3 34).trans hb.ke
  clear ha hb bel
  subst hW0
  obtain ⟨lv, vs, V, B, K9⟩ := s
  obtain ⟨lv2, vs2, V2, B2, K2⟩ := t
  simp only [] at a1 a2 a3 b1 b2 b3 SM0 hpS
  obtain ⟨RS, hRS⟩ : ∃ R, R = tSame lv lv2 vs vs2 := ⟨_, rfl⟩
  rw [← hRS] at SM0 hpS
  have SM := Lib.hid SM0
  clear SM0 hRS
  cases MB with
  | false =>
    have HR := Lib.hid hpS
    have MY := Lib.hid MY0
    clear hpS MY0 SM
    go_enter Tryd.func20, Tryd.ntmps20
    go_wp2_with ((with_reducible refine wpList_load_row (o := ⟨some 5, _, _, _, _, _⟩) rfl 28 (.tmp 2) rfl _ rfl _ ca (0, 0) _ q2 Tryd.underlying28 rfl hi ?_))
    refine MY.out.mono ?_
    rintro e w1 ⟨rfl, g⟩
    have BF := Lib.hid (chain BW.out g)
    clear g MY
    go_wp2_with fail
    go_ret
    exact ⟨by rw [HR.out]; rfl, BF.out⟩
  | true =>
    have HR := Lib.hid (show R = (decide (V = V2) && decide (B = B2) && decide (K9 = K2) && RS) by rw [hpS]; rfl)
    have MY := Lib.hid MY0
    clear hpS MY0
    go_enter Tryd.func20, Tryd.ntmps20
    go_wp2_with ((with_reducible refine wpList_load_row (o := ⟨some 5, _, _, _, _, _⟩) rfl 28 (.tmp 2) rfl _ rfl _ ca (0, 0) _ q2 Tryd.underlying28 rfl hi ?_))
    refine MY.out.mono ?_
    rintro e w1 ⟨rfl, g⟩
    have l2 := lt_of_block q2
    have l3 := lt_of_block q3
    replace q2 := (g.block _ l2).trans q2
    replace q3 := (g.block _ l3).trans q3
    replace a1 := (g.cell (p := ⟨w.heap.size, 32, none⟩) l2).trans a1
    replace a2 := (g.cell (p := ⟨w.heap.size, 33, none⟩) l2).trans a2
    replace a3 := (g.cell (p := ⟨w.heap.size, 34, none⟩) l2).trans a3
    replace b1 := (g.cell (p := ⟨w.heap.size + 1, 32, none⟩) l3).trans b1
    replace b2 := (g.cell (p := ⟨w.heap.size + 1, 33, none⟩) l3).trans b2
    replace b3 := (g.cell (p := ⟨w.heap.size + 1, 34, none⟩) l3).trans b3
    have SM := Lib.hid (fun W (k : Below w1.heap.size w1 W) => SM.out W (chain g k))
    have BW := Lib.hid (chain BW.out g)
    clear g MY l2 l3
    by_cases e0 : V = V2
    · have t0 : (V == V2) = true := beq_iff_eq.2 e0
      by_cases e1 : B = B2
      · have t1 : (B == B2) = true := beq_iff_eq.2 e1
        by_cases e2 : K9 = K2
        · have t2 : (K9 == K2) = true := beq_iff_eq.2 e2
          have E := Lib.hid (show R = RS by rw [HR.out, decide_eq_true e0, decide_eq_true e1, decide_eq_true e2]; rfl)
          clear e0 e1 e2
          go_wp2_with (first | ((with_reducible refine wpList_load_part_g (o := ⟨some 30, _, _, _, _, _⟩) ?_ 26 (.tmp 29) rfl _ 0 rfl (tC ca) _ (tC_range q2) Tryd.underlying26 rfl (tC_infoA hsa) ?_); rfl) | ((with_reducible refine wpList_load_part_g (o := ⟨some 32, _, _, _, _, _⟩) ?_ 26 (.tmp 31) rfl _ 0 rfl (tC cb) _ (tC_range q3) Tryd.underlying26 rfl (tC_infoA hsb) ?_); rfl))
          refine (SM.out _ (Below.refl _ _)).mono ?_
          rintro e w1 ⟨rfl, g⟩
          have BF := Lib.hid (chain BW.out g)
          clear g SM
          go_wp2_with fail
          go_ret
          exact ⟨by rw [E.out]; rfl, BF.out⟩
        · have t2 : (K9 == K2) = false := beq_eq_false_iff_ne.2 e2
          have E := Lib.hid (show R = false by rw [HR.out, decide_eq_false e2]; simp)
          clear SM e0 e1 e2
          go_wp2_with fail
          go_ret
          exact ⟨by rw [E.out]; rfl, BW.out⟩
      · have t1 : (B == B2) = false := beq_eq_false_iff_ne.2 e1
        have E := Lib.hid (show R = false by rw [HR.out, decide_eq_false e1]; simp)
        clear SM e0 e1
        go_wp2_with fail
        go_ret
        exact ⟨by rw [E.out]; rfl, BW.out⟩
    · have t0 : (V == V2) = false := beq_eq_false_iff_ne.2 e0
      have E := Lib.hid (show R = false by rw [HR.out, decide_eq_false e0]; simp)
      clear SM e0
      go_wp2_with fail
      go_ret
      exact ⟨by rw [E.out]; rfl, BW.out⟩
end Go.Proofs.YtbdfcgffkonbiaaDoor
namespace Go.Proofs.YtbdfcgffkonbiaaDoor
open Go Go.RowKit
set_option linter.unusedVariables false
theorem execOp_build {P : Program} {o : Oper} {a : Act} {w : World} (t : TypeId) (parts : Array (Nat × Operand)) (ho : o.op = .build t parts) (vs : Array (Nat × Value)) (hv : (parts.map fun (i, x) => (i, a.eval x)) = vs) (r : Value)
    (hr : (Instr.build t vs).run P w = .ok r w) : (execOp a.eval o).run P w = .ok (.value r) w := by
  unfold execOp
  simp only [ho, hv, Sem.run_bind, hr, Sem.run_pure, Result.andThen_ok]
theorem op_buildV {P : Program} {Q : Exit → Act → World → Prop} {o : Oper} {a : Act} {w : World} {K : Act → World → Prop} (t : TypeId) (parts : Array (Nat × Operand)) (ho : o.op = .build t parts) (vs : Array (Nat × Value)) (hv : (parts.map fun (i, x) => (i, a.eval x)) = vs) (r : Value)
    (hr : (Instr.build t vs).run P w = .ok r w) (h : K (a.put o.dst r) w) : o.wp P a w K Q := by
  unfold Oper.wp
  rw [execOp_build t parts ho vs hv r hr]
  exact h
theorem wpList_buildV {P : Program} {ops : Array Oper} {rest : List Oper} {o : Oper} {a : Act} {w : World} {Q : Exit → Act → World → Prop} (hgd : o.guard = none) (t : TypeId) (parts : Array (Nat × Operand)) (ho : o.op = .build t parts) (vs : Array (Nat × Value)) (hv : (parts.map fun (i, x) => (i, a.eval x)) = vs) (r : Value)
    (hr : (Instr.build t vs).run P w = .ok r w) (h : wpList P ops Q rest (a.put o.dst r) w) : wpList P ops Q (o :: rest) a w :=
  wpList_plain hgd fun _ hK => op_buildV t parts ho vs hv r hr (hK _ _ h)
end Go.Proofs.YtbdfcgffkonbiaaDoor
