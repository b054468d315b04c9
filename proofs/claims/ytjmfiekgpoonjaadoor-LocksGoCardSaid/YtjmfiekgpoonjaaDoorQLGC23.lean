/- Clash: the chapter's wants; the chapter's examples. Written by wip/tools/gen23l.py. -/
import Derived.Test.YtjmfiekgpoonjaaDoorQLGC22
namespace Go.Proofs.YtjmfiekgpoonjaaDoor
open Go Go.RowKit
set_option linter.unusedVariables false
set_option linter.unusedSimpArgs false
def fourL : List Wt := [⟨[], [[97, 47]]⟩, ⟨[[97, 47, 49]], []⟩, ⟨[[98]], []⟩, ⟨[], [[]]⟩]
theorem four_all : allB fourL = true := by decide +kernel
theorem four_ah : ahL fourL fourL.length = [[], [0], [], [0, 1, 2]] := by decide +kernel
theorem four_rk : rkN fourL fourL.length = [0, 1, 0, 2] := by decide +kernel
theorem four_s1 : swB fourL [2, 0, 1, 3] = true := by decide +kernel
theorem four_e1 : swE fourL [2, 0, 1, 3] = 0 := by decide +kernel
theorem four_s2 : swB fourL [1, 0, 2, 3] = false := by decide +kernel
theorem four_e2 : swE fourL [1, 0, 2, 3] = 0 := by decide +kernel
theorem four_sz : SzL fourL := by
  intro i hi
  have : i = 0 ∨ i = 1 ∨ i = 2 ∨ i = 3 := by unfold fourL at hi; simp at hi; omega
  rcases this with rfl | rfl | rfl | rfl
  all_goals
    refine ⟨fun s hs => ?_, fun s hs => ?_⟩
    all_goals
      simp [fourL, List.getD] at hs
      try (subst hs; decide)
theorem rdk_block {α : Type} {enc : α → List Value} {k : Nat} (hk : ∀ x, (enc x).length = k) {w : World} {g : Nat} {l : List α} {t : TypeId} (h : w.heap[g]? = some (.cells (l.flatMap enc).toArray t (0, 0))) (hm : l.length ≤ maxLen) : RdK k enc w (.slice (some ⟨g, 0, none⟩) l.length l.length) l :=
  ⟨_, l.length, rfl, Nat.le_refl _, hm, by simp, fun _ => ⟨g, 0, rfl, lt_of_block h, fun i hi => by rw [Nat.zero_add, block_cell h i]; simp⟩⟩
def GivesF (w : World) (L : List Wt) (e : Ending) (w' : World) : Prop := ∃ a n c ps, e = .returned (.slice a n c) ∧ RdL w' (.slice a n c) ps L ∧ Below w.heap.size w w'
set_option maxRecDepth 100000 in
theorem four_any (w : World) : Calls Tryd.prog 40 #[] w (GivesF w fourL) := by
  obtain ⟨W1, e1⟩ : ∃ W, W = w.alloc (.cells #[.string ⟨#[97, 47]⟩] 9) := ⟨_, rfl⟩
  obtain ⟨W2, e2⟩ : ∃ W, W = W1.alloc (.cells #[.string ⟨#[97, 47, 49]⟩] 9) := ⟨_, rfl⟩
  obtain ⟨W3, e3⟩ : ∃ W, W = W2.alloc (.cells #[.string ⟨#[98]⟩] 9) := ⟨_, rfl⟩
  obtain ⟨W4, e4⟩ : ∃ W, W = W3.alloc (.cells #[.string ⟨#[]⟩] 9) := ⟨_, rfl⟩
  obtain ⟨ps, hps⟩ : ∃ ps : List WV, ps = [⟨none, 0, 0, some ⟨w.heap.size, 0, none⟩, 1, 1⟩, ⟨some ⟨w.heap.size + 1, 0, none⟩, 1, 1, none, 0, 0⟩, ⟨some ⟨w.heap.size + 2, 0, none⟩, 1, 1, none, 0, 0⟩, ⟨none, 0, 0, some ⟨w.heap.size + 3, 0, none⟩, 1, 1⟩] := ⟨_, rfl⟩
  obtain ⟨W5, e5⟩ : ∃ W, W = W4.alloc (.cells (ps.flatMap wc).toArray 24) := ⟨_, rfl⟩
  have z1 : W1.heap.size = w.heap.size + 1 := by rw [e1]; simp
  have z2 : W2.heap.size = w.heap.size + 2 := by rw [e2]; simp [z1]
  have z3 : W3.heap.size = w.heap.size + 3 := by rw [e3]; simp [z2]
  have z4 : W4.heap.size = w.heap.size + 4 := by rw [e4]; simp [z3]
  have b1 : Below w.heap.size w W1 := by rw [e1]; exact (Below.refl _ _).alloc (Nat.le_refl _) _
  have b2 : Below W1.heap.size W1 W2 := by rw [e2]; exact (Below.refl _ _).alloc (Nat.le_refl _) _
  have b3 : Below W2.heap.size W2 W3 := by rw [e3]; exact (Below.refl _ _).alloc (Nat.le_refl _) _
  have b4 : Below W3.heap.size W3 W4 := by rw [e4]; exact (Below.refl _ _).alloc (Nat.le_refl _) _
  have b5 : Below W4.heap.size W4 W5 := by rw [e5]; exact (Below.refl _ _).alloc (Nat.le_refl _) _
  have q1 : W1.heap[w.heap.size]? = some (.cells [sv [97, 47]].toArray 9 (0, 0)) := by rw [e1]; exact heap_alloc_new _ _
  have q2 : W2.heap[w.heap.size + 1]? = some (.cells [sv [97, 47, 49]].toArray 9 (0, 0)) := by rw [e2, ← z1]; exact heap_alloc_new _ _
  have q3 : W3.heap[w.heap.size + 2]? = some (.cells [sv [98]].toArray 9 (0, 0)) := by rw [e3, ← z2]; exact heap_alloc_new _ _
  have q4 : W4.heap[w.heap.size + 3]? = some (.cells [sv []].toArray 9 (0, 0)) := by rw [e4, ← z3]; exact heap_alloc_new _ _
  have q5 : W5.heap[w.heap.size + 4]? = some (.cells (ps.flatMap wc).toArray 24 (0, 0)) := by rw [e5, ← z4]; exact heap_alloc_new _ _
  have g4 := b5
  have g3 := chain b4 g4
  have g2 := chain b3 g3
  have g1 := chain b2 g2
  have r1 : RdS W5 (.slice (some ⟨w.heap.size, 0, none⟩) 1 1) [[97, 47]] := rdv_block (vs := [sv [97, 47]]) ((g1.block _ (lt_of_block q1)).trans q1) rfl (by decide)
  have r2 : RdS W5 (.slice (some ⟨w.heap.size + 1, 0, none⟩) 1 1) [[97, 47, 49]] := rdv_block (vs := [sv [97, 47, 49]]) ((g2.block _ (lt_of_block q2)).trans q2) rfl (by decide)
  have r3 : RdS W5 (.slice (some ⟨w.heap.size + 2, 0, none⟩) 1 1) [[98]] := rdv_block (vs := [sv [98]]) ((g3.block _ (lt_of_block q3)).trans q3) rfl (by decide)
  have r4 : RdS W5 (.slice (some ⟨w.heap.size + 3, 0, none⟩) 1 1) [[]] := rdv_block (vs := [sv []]) ((g4.block _ (lt_of_block q4)).trans q4) rfl (by decide)
  have r0 : RdS W5 (.slice none 0 0) [] := rdv_nil _
  have BEL := Lib.hid (chain b1 g1)
  have RD := Lib.hid (show RdL W5 (.slice (some ⟨w.heap.size + 4, 0, none⟩) 4 4) ps fourL by
    have h4 : ps.length = 4 := by rw [hps]; rfl
    have hk := rdk_block wc_len q5 (by unfold maxLen; omega)
    rw [h4] at hk
    refine ⟨hk, by rw [hps]; rfl, fun i hi => ?_⟩
    have : i = 0 ∨ i = 1 ∨ i = 2 ∨ i = 3 := by unfold fourL at hi; simp at hi; omega
    rw [hps]
    rcases this with rfl | rfl | rfl | rfl
    · exact ⟨r0, r1⟩
    · exact ⟨r2, r0⟩
    · exact ⟨r3, r0⟩
    · exact ⟨r0, r4⟩)
  obtain ⟨Z, hZ⟩ : ∃ Z, Z = GivesF w fourL := ⟨_, rfl⟩
  rw [← hZ]
  have HZ := Lib.hid hZ
  have HW := Lib.hid (show W5 = ((((w.alloc (.cells #[.string ⟨#[97, 47]⟩] 9)).alloc (.cells #[.string ⟨#[97, 47, 49]⟩] 9)).alloc (.cells #[.string ⟨#[98]⟩] 9)).alloc (.cells #[.string ⟨#[]⟩] 9)).alloc (.cells #[.slice none 0 0, .slice (some ⟨w.heap.size, 0, none⟩) 1 1, .slice (some ⟨w.heap.size + 1, 0, none⟩) 1 1, .slice none 0 0, .slice (some ⟨w.heap.size + 2, 0, none⟩) 1 1, .slice none 0 0, .slice none 0 0, .slice (some ⟨w.heap.size + 3, 0, none⟩) 1 1] 24) by rw [e5, hps, e4, e3, e2, e1]; rfl)
  clear hZ r0 r1 r2 r3 r4 g1 g2 g3 g4 q1 q2 q3 q4 q5 b1 b2 b3 b4 b5 z1 z2 z3 z4 e1 e2 e3 e4 e5 hps
  go_enter Tryd.func40, Tryd.ntmps40
  go_wp2_with fail
  show Z (.returned _) _
  rw [HZ.out]
  refine ⟨_, _, _, ps, rfl, ?_, ?_⟩
  · have h := RD.out
    rw [HW.out] at h
    exact h
  · have h := BEL.out
    rw [HW.out] at h
    exact h
set_option maxRecDepth 100000 in
set_option maxHeartbeats 2000000 in
theorem awake23_any (w : World) (tab : TabAt w) : Calls Tryd.prog 11 #[] w fun e w' => e = .returned (.bool true) ∧ Below w.heap.size w w' := by
  have bel := Below.refl w.heap.size w
  go_enter Tryd.func11, Tryd.ntmps11
  go_wp2_with fail
  refine (four_any _).mono ?_
  rintro e u1 ⟨a1, n1, c1, p1, rfl, r1, g⟩
  have tab := tab.below g
  have bel := chain bel g
  clear g
  go_wp2_with fail
  refine (aheadF_yes _ p1 fourL _ tab r1 four_sz four_all).mono ?_
  rintro e u2 ⟨a2, n2, c2, rfl, hA, g⟩
  rw [four_ah] at hA
  obtain ⟨hn2, -, -⟩ := hA.open
  subst hn2
  have tab := tab.below g
  have bel := chain bel g
  clear g r1
  go_wp2_with fail
  refine (four_any _).mono ?_
  rintro e u3 ⟨a3, n3, c3, p3, rfl, r3, g⟩
  have tab := tab.below g
  have bel := chain bel g
  have hA := hA.below g (Nat.le_refl _)
  clear g
  go_wp2_with fail
  refine (ranks_yes _ p3 fourL _ tab r3 four_sz four_all).mono ?_
  rintro e u4 ⟨a4, n4, c4, rfl, hR, g⟩
  rw [four_rk] at hR
  obtain ⟨_, _, hn4, -, -, -⟩ := RdI.open hR
  cases hn4
  have tab := tab.below g
  have bel := chain bel g
  have hA := hA.below g (Nat.le_refl _)
  clear g r3
  go_wp2_with fail
  refine (four_any _).mono ?_
  rintro e u5 ⟨a5, n5, c5, p5, rfl, r5, g⟩
  have tab := tab.below g
  have bel := chain bel g
  have hA := hA.below g (Nat.le_refl _)
  have hR := RdV.below hR g (Nat.le_refl _)
  clear g
  have q5 := heap_alloc_new u5 (.cells #[.int .i64 2, .int .i64 0, .int .i64 1, .int .i64 3] 3)
  have b5 := (Below.refl u5.heap.size u5).alloc (Nat.le_refl _) (.cells #[.int .i64 2, .int .i64 0, .int .i64 1, .int .i64 3] 3)
  have o5 : RdZ (u5.alloc (.cells #[.int .i64 2, .int .i64 0, .int .i64 1, .int .i64 3] 3)) (.slice (some ⟨u5.heap.size, 0, none⟩) 4 4) [2, 0, 1, 3] := rdv_block (vs := ([2, 0, 1, 3] : List Int).map zv) q5 rfl (by decide)
  have SW5 := Lib.hid (swap_yes _ p5 fourL _ _ _ (tab.below b5) (r5.below b5 (Nat.le_refl _)) four_sz o5 four_all rfl)
  rw [four_s1, four_e1] at SW5
  clear o5 q5 r5
  go_wp2_with fail
  refine SW5.out.mono ?_
  rintro e v5 ⟨rfl, g⟩
  have gg := chain b5 g
  have tab := tab.below gg
  have bel := chain bel gg
  have hA := hA.below gg (Nat.le_refl _)
  have hR := RdV.below hR gg (Nat.le_refl _)
  clear g gg SW5 b5
  go_wp2_with fail
  refine (four_any _).mono ?_
  rintro e u6 ⟨a6, n6, c6, p6, rfl, r6, g⟩
  have tab := tab.below g
  have bel := chain bel g
  have hA := hA.below g (Nat.le_refl _)
  have hR := RdV.below hR g (Nat.le_refl _)
  clear g
  have q6 := heap_alloc_new u6 (.cells #[.int .i64 1, .int .i64 0, .int .i64 2, .int .i64 3] 3)
  have b6 := (Below.refl u6.heap.size u6).alloc (Nat.le_refl _) (.cells #[.int .i64 1, .int .i64 0, .int .i64 2, .int .i64 3] 3)
  have o6 : RdZ (u6.alloc (.cells #[.int .i64 1, .int .i64 0, .int .i64 2, .int .i64 3] 3)) (.slice (some ⟨u6.heap.size, 0, none⟩) 4 4) [1, 0, 2, 3] := rdv_block (vs := ([1, 0, 2, 3] : List Int).map zv) q6 rfl (by decide)
  have SW6 := Lib.hid (swap_yes _ p6 fourL _ _ _ (tab.below b6) (r6.below b6 (Nat.le_refl _)) four_sz o6 four_all rfl)
  rw [four_s2, four_e2] at SW6
  clear o6 q6 r6
  go_wp2_with fail
  refine SW6.out.mono ?_
  rintro e v6 ⟨rfl, g⟩
  have gg := chain b6 g
  have tab := tab.below gg
  have bel := chain bel gg
  have hA := hA.below gg (Nat.le_refl _)
  have hR := RdV.below hR gg (Nat.le_refl _)
  clear g gg SW6 b6
  obtain ⟨ba, fa, t0, k0, rfl, hba, x0, -⟩ := hA.cell 0 (by decide)
  obtain ⟨_, _, t1, k1, h1, -, x1, -⟩ := hA.cell 1 (by decide)
  cases h1
  obtain ⟨_, _, t3, k3, h3, -, x3, -⟩ := hA.cell 3 (by decide)
  cases h3
  obtain ⟨br, fr, rfl, hbr, y1⟩ := RdI.cell hR 1 (by decide)
  obtain ⟨_, _, h4, -, y2⟩ := RdI.cell hR 2 (by decide)
  cases h4
  obtain ⟨_, _, h5, -, y3⟩ := RdI.cell hR 3 (by decide)
  cases h5
  clear hA hR
  have x0 : v6.cell? ⟨ba, fa, none⟩ = some (.slice t0 0 k0) := x0
  have x1 : v6.cell? ⟨ba, fa + 1, none⟩ = some (.slice t1 1 k1) := x1
  have x3 : v6.cell? ⟨ba, fa + 3, none⟩ = some (.slice t3 3 k3) := x3
  have y1 : v6.cell? ⟨br, fr + 1, none⟩ = some (.int .i64 1) := y1
  have y2 : v6.cell? ⟨br, fr + 2, none⟩ = some (.int .i64 0) := y2
  have y3 : v6.cell? ⟨br, fr + 3, none⟩ = some (.int .i64 2) := y3
  go_wp2_with fail
  go_ret
  exact ⟨rfl, bel⟩
end Go.Proofs.YtjmfiekgpoonjaaDoor
