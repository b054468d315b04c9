/- Marks: the chapter's examples. Written by wip/tools/gen30k.py. -/
import Derived.Test.YtgmblgpfgdfnaaaQMM36
import Derived.Test.YtgmblgpfgdfnaaaQMM28
namespace Go.Proofs.Ytgmblgpfgdfnaaa
open Go Go.RowKit
set_option linter.unusedVariables false
set_option linter.unusedSimpArgs false
set_option maxRecDepth 100000

def GM (w : World) (lo ro : Int) (l : List Vt) (is : Bool) (code : Int) (e : Ending) (w' : World) : Prop := ∃ a n c, e = .returned (.tuple #[.agg #[.int .i64 lo, .int .i64 ro, .slice a n c], .bool is, .int .i64 code]) ∧ RdM w' ⟨lo, ro, l⟩ (.slice a n c) ∧ Below w.heap.size w w'
theorem exm1 (v : Value) (w : World) (h : RdM w (⟨0, 0, []⟩ : Ms) v) : Calls Try.prog 20 #[.agg #[.int .i64 0, .int .i64 0, v], .agg #[.int .i64 0, .int .i64 4, .int .i64 7], .int .i64 4] w (GM w 0 0 [⟨0, 4, 7⟩] false 0) := by
  have h := say_any (⟨0, 0, []⟩ : Ms) v (⟨0, 4, 7⟩ : Vt) 4 w h (by decide) (by decide) (by decide)
  rw [show sayE (⟨0, 0, []⟩ : Ms) (⟨0, 4, 7⟩ : Vt) 4 = 0 by decide +kernel, show sayR (⟨0, 0, []⟩ : Ms) (⟨0, 4, 7⟩ : Vt) 4 = ⟨0, 0, [⟨0, 4, 7⟩]⟩ by rfl, show (sayS (⟨0, 0, []⟩ : Ms) (⟨0, 4, 7⟩ : Vt) 4).isSome = false by decide +kernel] at h
  exact h
theorem exm2 (v : Value) (w : World) (h : RdM w (⟨0, 0, [⟨0, 4, 7⟩]⟩ : Ms) v) : Calls Try.prog 20 #[.agg #[.int .i64 0, .int .i64 0, v], .agg #[.int .i64 1, .int .i64 4, .int .i64 7], .int .i64 4] w (GM w 0 0 [⟨0, 4, 7⟩, ⟨1, 4, 7⟩] false 0) := by
  have h := say_any (⟨0, 0, [⟨0, 4, 7⟩]⟩ : Ms) v (⟨1, 4, 7⟩ : Vt) 4 w h (by decide) (by decide) (by decide)
  rw [show sayE (⟨0, 0, [⟨0, 4, 7⟩]⟩ : Ms) (⟨1, 4, 7⟩ : Vt) 4 = 0 by decide +kernel, show sayR (⟨0, 0, [⟨0, 4, 7⟩]⟩ : Ms) (⟨1, 4, 7⟩ : Vt) 4 = ⟨0, 0, [⟨0, 4, 7⟩, ⟨1, 4, 7⟩]⟩ by rfl, show (sayS (⟨0, 0, [⟨0, 4, 7⟩]⟩ : Ms) (⟨1, 4, 7⟩ : Vt) 4).isSome = false by decide +kernel] at h
  exact h
theorem exm3 (v : Value) (w : World) (h : RdM w (⟨0, 0, [⟨0, 4, 7⟩, ⟨1, 4, 7⟩]⟩ : Ms) v) : Calls Try.prog 20 #[.agg #[.int .i64 0, .int .i64 0, v], .agg #[.int .i64 2, .int .i64 4, .int .i64 7], .int .i64 4] w (GM w 4 7 [] true 0) := by
  have h := say_any (⟨0, 0, [⟨0, 4, 7⟩, ⟨1, 4, 7⟩]⟩ : Ms) v (⟨2, 4, 7⟩ : Vt) 4 w h (by decide) (by decide) (by decide)
  rw [show sayE (⟨0, 0, [⟨0, 4, 7⟩, ⟨1, 4, 7⟩]⟩ : Ms) (⟨2, 4, 7⟩ : Vt) 4 = 0 by decide +kernel, show sayR (⟨0, 0, [⟨0, 4, 7⟩, ⟨1, 4, 7⟩]⟩ : Ms) (⟨2, 4, 7⟩ : Vt) 4 = ⟨4, 7, []⟩ by rfl, show (sayS (⟨0, 0, [⟨0, 4, 7⟩, ⟨1, 4, 7⟩]⟩ : Ms) (⟨2, 4, 7⟩ : Vt) 4).isSome = true by decide +kernel] at h
  exact h
theorem exm4 (v : Value) (w : World) (h : RdM w (⟨4, 7, []⟩ : Ms) v) : Calls Try.prog 20 #[.agg #[.int .i64 4, .int .i64 7, v], .agg #[.int .i64 3, .int .i64 4, .int .i64 7], .int .i64 4] w (GM w 0 0 [] false 22) := by
  have h := say_any (⟨4, 7, []⟩ : Ms) v (⟨3, 4, 7⟩ : Vt) 4 w h (by decide) (by decide) (by decide)
  rw [show sayE (⟨4, 7, []⟩ : Ms) (⟨3, 4, 7⟩ : Vt) 4 = 22 by decide +kernel, show sayR (⟨4, 7, []⟩ : Ms) (⟨3, 4, 7⟩ : Vt) 4 = ⟨0, 0, []⟩ by rfl, show (sayS (⟨4, 7, []⟩ : Ms) (⟨3, 4, 7⟩ : Vt) 4).isSome = false by decide +kernel] at h
  exact h
theorem exm5 (v : Value) (w : World) (h : RdM w (⟨4, 7, []⟩ : Ms) v) : Calls Try.prog 20 #[.agg #[.int .i64 4, .int .i64 7, v], .agg #[.int .i64 3, .int .i64 24, .int .i64 7], .int .i64 4] w (GM w 0 0 [] false 22) := by
  have h := say_any (⟨4, 7, []⟩ : Ms) v (⟨3, 24, 7⟩ : Vt) 4 w h (by decide) (by decide) (by decide)
  rw [show sayE (⟨4, 7, []⟩ : Ms) (⟨3, 24, 7⟩ : Vt) 4 = 22 by decide +kernel, show sayR (⟨4, 7, []⟩ : Ms) (⟨3, 24, 7⟩ : Vt) 4 = ⟨0, 0, []⟩ by rfl, show (sayS (⟨4, 7, []⟩ : Ms) (⟨3, 24, 7⟩ : Vt) 4).isSome = false by decide +kernel] at h
  exact h
theorem exm6 (v : Value) (w : World) (h : RdM w (⟨0, 0, [⟨0, 4, 7⟩, ⟨1, 4, 7⟩]⟩ : Ms) v) : Calls Try.prog 8 #[.agg #[.int .i64 0, .int .i64 0, v], .int .i64 4, .int .i64 7] w fun e w' => ∃ a c, e = .returned (.slice a 2 c) ∧ w'.ownsRow w.heap.size 32 5 (.slice a 2 c) 2 [.int .i64 0, .int .i64 5, .int .i64 0, .int .i64 4, .int .i64 7, .int .i64 1, .int .i64 5, .int .i64 0, .int .i64 4, .int .i64 7] ∧ Below w.heap.size w w' := by
  have h := voices_any (⟨0, 0, [⟨0, 4, 7⟩, ⟨1, 4, 7⟩]⟩ : Ms) v 4 7 w h (by decide)
  rw [show voiM (⟨0, 0, [⟨0, 4, 7⟩, ⟨1, 4, 7⟩]⟩ : Ms) 4 7 = [⟨0, 5, 0, 4, 7⟩, ⟨1, 5, 0, 4, 7⟩] by rfl] at h
  exact h
theorem rdm_three {w w' : World} {B : Nat} {x y : Int} {a : Option Addr} {n c : Nat} {T : TypeId} {v : Value} {m : Ms} (h0 : w.heap[B]? = some (.cells #[.int .i64 x, .int .i64 y, .slice a n c] T (0, 0))) (g : w.grownBy w' (some B)) (r : RdM w m v) : RdM w' m v := ⟨rdt_three h0 g r.l, r.b⟩
set_option maxHeartbeats 2000000 in
theorem awake_any (w : World) : Calls Try.prog 15 #[] w fun e w' => e = .returned (.bool true) ∧ Below w.heap.size w w' := by
  have X1 := Lib.hid (fun w => exm1 (.slice none 0 0) w (rdm0 w))
  have X2 := Lib.hid exm2
  have X3 := Lib.hid exm3
  have X4 := Lib.hid exm4
  have X5 := Lib.hid exm5
  have X6 := Lib.hid exm6
  go_enter Try.func15, Try.ntmps15
  go_wp2_with fail
  refine (X1.out _).mono ?_
  rintro e w1 ⟨a1, n1, k1, rfl, O1, g1⟩
  go_wp2_with fail
  obtain ⟨wA, hwA⟩ : ∃ W, W = w1.alloc (.cells #[.int .i64 0, .int .i64 0, .slice a1 n1 k1] 24) := ⟨_, rfl⟩
  rw [← hwA]
  have qA : wA.heap[w1.heap.size]? = some (.cells #[.int .i64 0, .int .i64 0, .slice a1 n1 k1] 24 (0, 0)) := by rw [hwA]; exact heap_alloc_new w1 _
  have OA := O1.below (w' := wA) (by rw [hwA]; exact (Below.refl _ _).alloc (Nat.le_refl _) _) (Nat.le_refl _)
  have bA : Below w.heap.size w wA := by rw [hwA]; exact g1.alloc g1.size _
  have hs1 := g1.size
  clear hwA O1 g1
  refine (X2.out _ _ OA).mono ?_
  rintro e w2 ⟨a2, n2, k2, rfl, O2, g⟩
  have q2 := (g.block _ (lt_of_block qA)).trans qA
  have b2 := chain bA g
  obtain ⟨d0, d1, d2, df⟩ := block_cells3 q2
  clear g OA bA qA
  go_wp2_with fail
  obtain ⟨wB, hwB⟩ : ∃ W, W = (((w2.setCell ⟨w1.heap.size, 0, none⟩ (.int .i64 0)).setCell ⟨w1.heap.size, 1, none⟩ (.int .i64 0)).setCell ⟨w1.heap.size, 2, none⟩ (.slice a2 n2 k2)) := ⟨_, rfl⟩
  rw [← hwB]
  have GB : w2.grownBy wB (some w1.heap.size) := by rw [hwB]; exact set3_grown
  have qB : wB.heap[w1.heap.size]? = some (.cells #[.int .i64 0, .int .i64 0, .slice a2 n2 k2] 24 (0, 0)) := by rw [hwB]; exact set3_new q2
  have OB := rdm_three q2 GB O2
  have bB := below_grownN b2 GB b2.size (fun q e => by injection e with e; omega)
  clear hwB d0 d1 d2 df q2 O2 b2 GB
  refine (X6.out _ _ OB).mono ?_
  rintro e w3 ⟨av, cv, rfl, ov, g⟩
  have q3 := (g.block _ (lt_of_block qB)).trans qB
  have b3 := chain bB g
  have O3 := OB.below g (Nat.le_refl _)
  have hk3 : w1.heap.size < wB.heap.size := lt_of_block qB
  obtain ⟨d0, d1, d2, df⟩ := block_cells3 q3
  clear g OB bB qB
  go_wp2_with fail
  refine (X3.out _ _ O3).mono ?_
  rintro e w4 ⟨a4, n4, k4, rfl, O4, g⟩
  have q4 := (g.block _ (lt_of_block q3)).trans q3
  have b4 := chain b3 g
  have ov4 := own_rows_below ov g
  clear d0 d1 d2 df
  obtain ⟨d0, d1, d2, df⟩ := block_cells3 q4
  clear g O3 b3 q3 ov
  go_wp2_with fail
  obtain ⟨wC, hwC⟩ : ∃ W, W = (((w4.setCell ⟨w1.heap.size, 0, none⟩ (.int .i64 4)).setCell ⟨w1.heap.size, 1, none⟩ (.int .i64 7)).setCell ⟨w1.heap.size, 2, none⟩ (.slice a4 n4 k4)) := ⟨_, rfl⟩
  rw [← hwC]
  have GC : w4.grownBy wC (some w1.heap.size) := by rw [hwC]; exact set3_grown
  have qC : wC.heap[w1.heap.size]? = some (.cells #[.int .i64 4, .int .i64 7, .slice a4 n4 k4] 24 (0, 0)) := by rw [hwC]; exact set3_new q4
  have OC := rdm_three q4 GC O4
  have bC := below_grownN b4 GC b4.size (fun q e => by injection e with e; omega)
  have ovC := ov4.kept GC (by
    cases hq : (Value.slice av 2 cv).ownBlock with
    | none => exact .inl rfl
    | some q => refine .inr fun e => ?_; injection e with e; have := (ov4.lt q hq).1; omega)
  have HN4 := Lib.hid (show n4 = 0 by
    obtain ⟨ao', cap', e9, _⟩ := OC.l
    injection e9)
  clear hwC d0 d1 d2 df q4 O4 b4 GC ov4
  refine (X4.out _ _ OC).mono ?_
  rintro e w5 ⟨a5, n5, k5, rfl, O5, g⟩
  have q5 := (g.block _ (lt_of_block qC)).trans qC
  have b5 := chain bC g
  have ov5 := own_rows_below ovC g
  have OC5 := OC.below g (Nat.le_refl _)
  clear g OC bC qC ovC O5
  have q5' : (w5.alloc (.cells #[.int .i64 0, .int .i64 0, .slice a5 n5 k5] 24)).heap[w1.heap.size]? = some (.cells #[.int .i64 4, .int .i64 7, .slice a4 n4 k4] 24 (0, 0)) := (((Below.refl w5.heap.size w5).alloc (Nat.le_refl _) _).block _ (lt_of_block q5)).trans q5
  obtain ⟨d0, d1, d2, df⟩ := block_cells3 q5'
  go_wp2_with fail
  obtain ⟨wD, hwD⟩ : ∃ W, W = w5.alloc (.cells #[.int .i64 0, .int .i64 0, .slice a5 n5 k5] 24) := ⟨_, rfl⟩
  rw [← hwD] at q5' ⊢
  have gD : Below w5.heap.size w5 wD := by rw [hwD]; exact (Below.refl _ _).alloc (Nat.le_refl _) _
  have OD := OC5.below gD (Nat.le_refl _)
  have bD := chain b5 gD
  have ovD := own_rows_below ov5 gD
  clear hwD d0 d1 d2 df q5 OC5 b5 ov5 gD
  refine (X5.out _ _ OD).mono ?_
  rintro e w6 ⟨a6, n6, k6, rfl, O6, g⟩
  have q6 := (g.block _ (lt_of_block q5')).trans q5'
  have b6 := chain bD g
  have ov6 := own_rows_below ovD g
  clear g OD bD q5' ovD O6
  have gE : Below w6.heap.size w6 (w6.alloc (.cells #[.int .i64 0, .int .i64 0, .slice a6 n6 k6] 24)) := (Below.refl _ _).alloc (Nat.le_refl _) _
  have qE := (gE.block _ (lt_of_block q6)).trans q6
  have ovE := own_rows_below ov6 gE
  have BE := Lib.hid (chain b6 gE)
  obtain ⟨gv, hgv⟩ : ∃ gv, av = some ⟨gv, 0, none⟩ := by
    rcases ovE.2 with ⟨h1, h2⟩ | ⟨g, cap, cur, h1, _⟩
    · omega
    · injection h1 with h1; exact ⟨g, h1⟩
  subst hgv
  obtain rfl : n4 = 0 := HN4.out
  have v0 := ovE.cellAt 5 (by omega)
  have v1 := ovE.cellAt 6 (by omega)
  have v2 := ovE.cellAt 7 (by omega)
  have v3 := ovE.cellAt 8 (by omega)
  have v4 := ovE.cellAt 9 (by omega)
  simp only [List.getElem?_cons_succ, List.getElem?_cons_zero] at v0 v1 v2 v3 v4
  obtain ⟨d0, d1, d2, df⟩ := block_cells3 qE
  clear gE qE ovE q6 b6 ov6
  go_wp2_with fail
  go_ret
  exact ⟨rfl, BE.out⟩
end Go.Proofs.Ytgmblgpfgdfnaaa
