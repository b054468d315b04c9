/- Slots: the chapter's examples. Written by wip/tools/gen29w.py. -/
import Derived.Test.YtgmblgpfgdfnaaaDoorQSPC23
import Derived.Test.YtgmblgpfgdfnaaaDoorQSPC24
namespace Go.Proofs.YtgmblgpfgdfnaaaDoor
open Go Go.RowKit
set_option linter.unusedVariables false
set_option linter.unusedSimpArgs false
set_option maxRecDepth 100000
/-- A slot of view 0 and term 7 that comes back. -/
def GL (w : World) (s : Sl) (code : Int) (e : Ending) (w' : World) : Prop := ∃ a1 n1 c1 a2 n2 c2, e = .returned (.tuple #[.agg #[.bool true, .int .i64 0, .int .i64 7, .string ⟨#[98]⟩, .slice a1 n1 c1, .slice a2 n2 c2], .int .i64 code]) ∧ OwnS w' w.heap.size s (.slice a1 n1 c1) (.slice a2 n2 c2) ∧ Below w.heap.size w w'
def cK (k : Nat) : Sl := ⟨true, 0, 7, [98], [⟨1, 0, 7⟩, ⟨2, 0, 7⟩], (List.range k).map fun i : Nat => ⟨(i : Int), 0, 7⟩⟩
theorem ex1 (w : World) : Calls Tryd.prog 8 #[.agg #[.bool false, .int .i64 0, .int .i64 0, .string ⟨#[]⟩, .slice none 0 0, .slice none 0 0], .int .i64 0, .int .i64 7, .string ⟨#[98]⟩] w (GL w ⟨true, 0, 7, [98], [], []⟩ 0) := by
  have h := propose_any sl0 (.slice none 0 0) (.slice none 0 0) 0 7 [98] w (rds0 w) (by decide)
  rw [show propE sl0 0 7 [98] = 0 by decide, show propR sl0 0 7 [98] = ⟨true, 0, 7, [98], [], []⟩ by rfl] at h
  exact h
theorem ex2 (vP vC : Value) (w : World) (h : RdS w ⟨true, 0, 7, [98], [], []⟩ vP vC) : Calls Tryd.prog 9 #[.agg #[.bool true, .int .i64 0, .int .i64 7, .string ⟨#[98]⟩, vP, vC], .agg #[.int .i64 1, .int .i64 0, .int .i64 7]] w (GL w ⟨true, 0, 7, [98], [⟨1, 0, 7⟩], []⟩ 0) := by
  have h := prep_any ⟨true, 0, 7, [98], [], []⟩ vP vC ⟨1, 0, 7⟩ w h
  rw [show castE ⟨true, 0, 7, [98], [], []⟩ (Sl.ps ⟨true, 0, 7, [98], [], []⟩) ⟨1, 0, 7⟩ = 0 by decide, show prepR ⟨true, 0, 7, [98], [], []⟩ ⟨1, 0, 7⟩ = ⟨true, 0, 7, [98], [⟨1, 0, 7⟩], []⟩ by rfl] at h
  exact h
theorem ex3 (vP vC : Value) (w : World) (h : RdS w ⟨true, 0, 7, [98], [⟨1, 0, 7⟩], []⟩ vP vC) : Calls Tryd.prog 9 #[.agg #[.bool true, .int .i64 0, .int .i64 7, .string ⟨#[98]⟩, vP, vC], .agg #[.int .i64 2, .int .i64 0, .int .i64 7]] w (GL w ⟨true, 0, 7, [98], [⟨1, 0, 7⟩, ⟨2, 0, 7⟩], []⟩ 0) := by
  have h := prep_any ⟨true, 0, 7, [98], [⟨1, 0, 7⟩], []⟩ vP vC ⟨2, 0, 7⟩ w h
  rw [show castE ⟨true, 0, 7, [98], [⟨1, 0, 7⟩], []⟩ (Sl.ps ⟨true, 0, 7, [98], [⟨1, 0, 7⟩], []⟩) ⟨2, 0, 7⟩ = 0 by decide, show prepR ⟨true, 0, 7, [98], [⟨1, 0, 7⟩], []⟩ ⟨2, 0, 7⟩ = ⟨true, 0, 7, [98], [⟨1, 0, 7⟩, ⟨2, 0, 7⟩], []⟩ by rfl] at h
  exact h
theorem ex4 (vP vC : Value) (w : World) (h : RdS w ⟨true, 0, 7, [98], [⟨1, 0, 7⟩, ⟨2, 0, 7⟩], []⟩ vP vC) : Calls Tryd.prog 9 #[.agg #[.bool true, .int .i64 0, .int .i64 7, .string ⟨#[98]⟩, vP, vC], .agg #[.int .i64 1, .int .i64 0, .int .i64 8]] w fun e w' => ∃ a1 n1 c1 a2 n2 c2, e = .returned (.tuple #[.agg #[.bool false, .int .i64 0, .int .i64 0, .string ⟨#[]⟩, .slice a1 n1 c1, .slice a2 n2 c2], .int .i64 23]) ∧ Below w.heap.size w w' := by
  have h := prep_any ⟨true, 0, 7, [98], [⟨1, 0, 7⟩, ⟨2, 0, 7⟩], []⟩ vP vC ⟨1, 0, 8⟩ w h
  rw [show castE ⟨true, 0, 7, [98], [⟨1, 0, 7⟩, ⟨2, 0, 7⟩], []⟩ (Sl.ps ⟨true, 0, 7, [98], [⟨1, 0, 7⟩, ⟨2, 0, 7⟩], []⟩) ⟨1, 0, 8⟩ = 23 by decide, show prepR ⟨true, 0, 7, [98], [⟨1, 0, 7⟩, ⟨2, 0, 7⟩], []⟩ ⟨1, 0, 8⟩ = sl0 by rfl] at h
  refine h.mono ?_
  rintro e w' ⟨a1, n1, c1, a2, n2, c2, he, _, g⟩
  exact ⟨a1, n1, c1, a2, n2, c2, he, g⟩
theorem ex5 (vP vC : Value) (w : World) (h : RdS w ⟨true, 0, 7, [98], [⟨1, 0, 7⟩, ⟨2, 0, 7⟩], []⟩ vP vC) (hT : TabAt w) : Calls Tryd.prog 34 #[.agg #[.bool true, .int .i64 0, .int .i64 7, .string ⟨#[98]⟩, vP, vC], .int .i64 5, .int .i64 4] w fun e w' => ∃ a c, e = .returned (.slice a 3 c) ∧ w'.ownsRow w.heap.size 62 5 (.slice a 3 c) 3 [.int .i64 0, .int .i64 2, .int .i64 0, .int .i64 5, .int .i64 7, .int .i64 1, .int .i64 3, .int .i64 0, .int .i64 5, .int .i64 7, .int .i64 2, .int .i64 3, .int .i64 0, .int .i64 5, .int .i64 7] ∧ Below w.heap.size w w' := by
  have h := voices_yes ⟨true, 0, 7, [98], [⟨1, 0, 7⟩, ⟨2, 0, 7⟩], []⟩ vP vC 5 4 w h (by decide) (by decide +kernel) hT
  rw [show voiL ⟨true, 0, 7, [98], [⟨1, 0, 7⟩, ⟨2, 0, 7⟩], []⟩ 5 4 = [⟨0, 2, 0, 5, 7⟩, ⟨1, 3, 0, 5, 7⟩, ⟨2, 3, 0, 5, 7⟩] by
    unfold voiL
    rw [show listN (prN ⟨true, 0, 7, [98], [⟨1, 0, 7⟩, ⟨2, 0, 7⟩], []⟩ 4) = [1, 2] by decide +kernel]
    rfl] at h
  exact h
theorem ex6 (k : Nat) (hk : k < 3) (vP vC : Value) (w : World) (h : RdS w (cK k) vP vC) : Calls Tryd.prog 10 #[.agg #[.bool true, .int .i64 0, .int .i64 7, .string ⟨#[98]⟩, vP, vC], .agg #[.int .i64 (k : Int), .int .i64 0, .int .i64 7]] w (GL w (cK (k + 1)) 0) := by
  have h := com_any (cK k) vP vC ⟨(k : Int), 0, 7⟩ w h
  have e1 : castE (cK k) (cK k).cs ⟨(k : Int), 0, 7⟩ = 0 := by
    match k, hk with
    | 0, _ => decide
    | 1, _ => decide
    | 2, _ => decide
  have e2 : comR (cK k) ⟨(k : Int), 0, 7⟩ = cK (k + 1) := by
    match k, hk with
    | 0, _ => rfl
    | 1, _ => rfl
    | 2, _ => rfl
  rw [e1, e2] at h
  exact h
theorem ex7 (vP vC : Value) (w : World) (h : RdS w ⟨true, 0, 7, [98], [⟨1, 0, 7⟩, ⟨2, 0, 7⟩], []⟩ vP vC) : Calls Tryd.prog 19 #[.agg #[.bool true, .int .i64 0, .int .i64 7, .string ⟨#[98]⟩, vP, vC], .int .i64 4] w fun e w' => e = .returned (.bool true) ∧ Below w.heap.size w w' := by
  have h := prepared_any ⟨true, 0, 7, [98], [⟨1, 0, 7⟩, ⟨2, 0, 7⟩], []⟩ vP vC 4 w h (by decide)
  rw [show prepB ⟨true, 0, 7, [98], [⟨1, 0, 7⟩, ⟨2, 0, 7⟩], []⟩ 4 = true by decide +kernel] at h
  exact h
theorem ex8 (vP vC : Value) (w : World) (h : RdS w ⟨true, 0, 7, [98], [⟨1, 0, 7⟩, ⟨2, 0, 7⟩], []⟩ vP vC) : Calls Tryd.prog 21 #[.agg #[.bool true, .int .i64 0, .int .i64 7, .string ⟨#[98]⟩, vP, vC], .int .i64 4] w fun e w' => e = .returned (.bool false) ∧ Below w.heap.size w w' := by
  have h := committed_any ⟨true, 0, 7, [98], [⟨1, 0, 7⟩, ⟨2, 0, 7⟩], []⟩ vP vC 4 w h (by decide)
  rw [show comB ⟨true, 0, 7, [98], [⟨1, 0, 7⟩, ⟨2, 0, 7⟩], []⟩ 4 = false by decide +kernel] at h
  exact h
theorem ex9 (vP vC : Value) (w : World) (h : RdS w (cK 3) vP vC) : Calls Tryd.prog 21 #[.agg #[.bool true, .int .i64 0, .int .i64 7, .string ⟨#[98]⟩, vP, vC], .int .i64 4] w fun e w' => e = .returned (.bool true) ∧ Below w.heap.size w w' := by
  have h := committed_any (cK 3) vP vC 4 w h (by decide)
  rw [show comB (cK 3) 4 = true by decide +kernel] at h
  exact h
theorem OwnS.off {w w' : World} {base k : Nat} {s : Sl} {vP vC : Value} (h : OwnS w base s vP vC) (hk : w.heap.size ≤ k) (w1 : World) (hb : Below w.heap.size w w1) (g : w1.grownBy w' (some k)) : OwnS w' base s vP vC := by
  have f : ∀ v n xs, w.ownsRow base 26 3 v n xs → w'.ownsRow base 26 3 v n xs := fun v n xs ho => by
    refine (own_rows_below ho hb).kept g ?_
    cases hq : v.ownBlock with
    | none => exact .inl rfl
    | some q => refine .inr fun e => ?_; injection e with e; have := (ho.lt q hq).2; omega
  exact ⟨f _ _ _ h.p, f _ _ _ h.c, h.b⟩
set_option maxHeartbeats 4000000 in
theorem awake_any (w : World) (hT : TabAt w) : Calls Tryd.prog 17 #[] w fun e w' => e = .returned (.bool true) ∧ Below w.heap.size w w' := by
  have X1 := Lib.hid (fun w => ex1 w)
  have X2 := Lib.hid ex2
  have X3 := Lib.hid ex3
  have X4 := Lib.hid ex4
  have X5 := Lib.hid ex5
  have X6 := Lib.hid ex6
  have X7 := Lib.hid ex7
  have X8 := Lib.hid ex8
  have X9 := Lib.hid ex9
  have HT := Lib.hid hT
  clear hT
  go_enter Tryd.func17, Tryd.ntmps17
  go_wp2_with fail
  refine (X1.out _).mono ?_
  rintro e w1 ⟨a1, n1, k1, b1, m1, j1, rfl, O1, g1⟩
  go_wp2_with fail
  obtain ⟨wA, hwA⟩ : ∃ W, W = w1.alloc (.cells #[.bool true, .int .i64 0, .int .i64 7, .string ⟨#[98]⟩, .slice a1 n1 k1, .slice b1 m1 j1] 24) := ⟨_, rfl⟩
  rw [← hwA]
  have qwA : wA.heap[w1.heap.size]? = some (.cells #[.bool true, .int .i64 0, .int .i64 7, .string ⟨#[98]⟩, .slice a1 n1 k1, .slice b1 m1 j1] 24 (0, 0)) := by rw [hwA]; exact heap_alloc_new w1 _
  have OwA := O1.below (w' := wA) (by rw [hwA]; exact (Below.refl _ _).alloc (Nat.le_refl _) _)
  have bwA : Below w.heap.size w wA := by rw [hwA]; exact g1.alloc g1.size _
  have swA : wA.heap.size = w1.heap.size + 1 := by rw [hwA]; simp
  have hs1 := g1.size
  clear hwA O1 g1
  refine (X2.out _ _ _ OwA.rds).mono ?_
  rintro e w2 ⟨a2, n2, k2, b2, m2, j2, rfl, O2, g⟩
  have qw2 := (g.block _ (lt_of_block qwA)).trans qwA
  have bw2 := chain bwA g
  have hs2 := g.size
  obtain ⟨d0, d1, d2, d3, d4, d5, df⟩ := block_cells6 qw2
  clear g OwA bwA qwA
  go_wp2_with fail
  obtain ⟨wB, hwB⟩ : ∃ W, W = ((((((w2.setCell ⟨w1.heap.size, 0, none⟩ (.bool true)).setCell ⟨w1.heap.size, 1, none⟩ (.int .i64 0)).setCell ⟨w1.heap.size, 2, none⟩ (.int .i64 7)).setCell ⟨w1.heap.size, 3, none⟩ (.string ⟨#[98]⟩)).setCell ⟨w1.heap.size, 4, none⟩ (.slice a2 n2 k2)).setCell ⟨w1.heap.size, 5, none⟩ (.slice b2 m2 j2)) := ⟨_, rfl⟩
  rw [← hwB]
  have qwB : wB.heap[w1.heap.size]? = some (.cells #[.bool true, .int .i64 0, .int .i64 7, .string ⟨#[98]⟩, .slice a2 n2 k2, .slice b2 m2 j2] 24 (0, 0)) := by rw [hwB]; exact set6_new qw2
  have OwB := O2.kept (set6_grown (w := w2) (B := w1.heap.size) (u0 := .bool true) (u1 := .int .i64 0) (u2 := .int .i64 7) (u3 := .string ⟨#[98]⟩) (u4 := .slice a2 n2 k2) (u5 := .slice b2 m2 j2)) (by omega)
  rw [← hwB] at OwB
  have bwB : Below w.heap.size w wB := by rw [hwB]; exact below_grownB bw2 (set6_grown (u0 := .bool true) (u1 := .int .i64 0) (u2 := .int .i64 7) (u3 := .string ⟨#[98]⟩) (u4 := .slice a2 n2 k2) (u5 := .slice b2 m2 j2)) bw2.size (by omega)
  have swB : wB.heap.size = w2.heap.size := by rw [hwB]; simp
  clear hwB d0 d1 d2 d3 d4 d5 df qw2 O2 bw2
  refine (X3.out _ _ _ OwB.rds).mono ?_
  rintro e w3 ⟨a3, n3, k3, b3, m3, j3, rfl, O3, g⟩
  have qw3 := (g.block _ (lt_of_block qwB)).trans qwB
  have bw3 := chain bwB g
  have hs3 := g.size
  obtain ⟨d0, d1, d2, d3, d4, d5, df⟩ := block_cells6 qw3
  clear g OwB bwB qwB
  go_wp2_with fail
  obtain ⟨wC, hwC⟩ : ∃ W, W = ((((((w3.setCell ⟨w1.heap.size, 0, none⟩ (.bool true)).setCell ⟨w1.heap.size, 1, none⟩ (.int .i64 0)).setCell ⟨w1.heap.size, 2, none⟩ (.int .i64 7)).setCell ⟨w1.heap.size, 3, none⟩ (.string ⟨#[98]⟩)).setCell ⟨w1.heap.size, 4, none⟩ (.slice a3 n3 k3)).setCell ⟨w1.heap.size, 5, none⟩ (.slice b3 m3 j3)) := ⟨_, rfl⟩
  rw [← hwC]
  have qwC : wC.heap[w1.heap.size]? = some (.cells #[.bool true, .int .i64 0, .int .i64 7, .string ⟨#[98]⟩, .slice a3 n3 k3, .slice b3 m3 j3] 24 (0, 0)) := by rw [hwC]; exact set6_new qw3
  have OwC := O3.kept (set6_grown (w := w3) (B := w1.heap.size) (u0 := .bool true) (u1 := .int .i64 0) (u2 := .int .i64 7) (u3 := .string ⟨#[98]⟩) (u4 := .slice a3 n3 k3) (u5 := .slice b3 m3 j3)) (by omega)
  rw [← hwC] at OwC
  have bwC : Below w.heap.size w wC := by rw [hwC]; exact below_grownB bw3 (set6_grown (u0 := .bool true) (u1 := .int .i64 0) (u2 := .int .i64 7) (u3 := .string ⟨#[98]⟩) (u4 := .slice a3 n3 k3) (u5 := .slice b3 m3 j3)) bw3.size (by omega)
  have swC : wC.heap.size = w3.heap.size := by rw [hwC]; simp
  clear hwC d0 d1 d2 d3 d4 d5 df qw3 O3 bw3
  refine (X4.out _ _ _ OwC.rds).mono ?_
  rintro e w4 ⟨a4, n4, k4, b4, m4, j4, rfl, g⟩
  have qw4 := (g.block _ (lt_of_block qwC)).trans qwC
  have bw4 := chain bwC g
  have Ow4 := OwC.below g
  have hs4 := g.size
  obtain ⟨d0, d1, d2, d3, d4, d5, df⟩ := block_cells6 qw4
  clear g OwC bwC qwC
  have qD0 : (w4.alloc (.cells #[.bool false, .int .i64 0, .int .i64 0, .string ⟨#[]⟩, .slice a4 n4 k4, .slice b4 m4 j4] 24)).heap[w1.heap.size]? = some (.cells #[.bool true, .int .i64 0, .int .i64 7, .string ⟨#[98]⟩, .slice a3 n3 k3, .slice b3 m3 j3] 24 (0, 0)) := (heap_alloc_old _ _ (lt_of_block qw4)).trans qw4
  obtain ⟨y0, y1, y2, y3, y4, y5, yf⟩ := block_cells6 qD0
  go_wp2_with fail
  clear qD0 y0 y1 y2 y3 y4 y5 yf
  obtain ⟨wD, hwD⟩ : ∃ W, W = w4.alloc (.cells #[.bool false, .int .i64 0, .int .i64 0, .string ⟨#[]⟩, .slice a4 n4 k4, .slice b4 m4 j4] 24) := ⟨_, rfl⟩
  rw [← hwD]
  have qwD : wD.heap[w1.heap.size]? = some (.cells #[.bool true, .int .i64 0, .int .i64 7, .string ⟨#[98]⟩, .slice a3 n3 k3, .slice b3 m3 j3] 24 (0, 0)) := by rw [hwD]; exact (heap_alloc_old _ _ (lt_of_block qw4)).trans qw4
  have OwD := Ow4.below (w' := wD) (by rw [hwD]; exact (Below.refl _ _).alloc (Nat.le_refl _) _)
  have bwD : Below w.heap.size w wD := by rw [hwD]; exact bw4.alloc bw4.size _
  have swD : wD.heap.size = w4.heap.size + 1 := by rw [hwD]; simp
  clear hwD d0 d1 d2 d3 d4 d5 df qw4 Ow4 bw4
  refine (X5.out _ _ _ OwD.rds (HT.out.below bwD (Nat.lt_of_le_of_lt (Nat.zero_le _) HT.out.1))).mono ?_
  rintro e w5 ⟨av, cv, rfl, ov, g⟩
  have qw5 := (g.block _ (lt_of_block qwD)).trans qwD
  have bw5 := chain bwD g
  have Ow5 := OwD.below g
  have hs5 := g.size
  obtain ⟨d0, d1, d2, d3, d4, d5, df⟩ := block_cells6 qw5
  clear g OwD bwD qwD
  go_wp2_with fail
  obtain ⟨wE, hwE⟩ : ∃ W, W = w5.alloc (.cells #[.bool true, .int .i64 0, .int .i64 7, .string ⟨#[98]⟩, .slice a3 n3 k3, .slice b3 m3 j3] 24) := ⟨_, rfl⟩
  rw [← hwE]
  have qwE : wE.heap[w1.heap.size]? = some (.cells #[.bool true, .int .i64 0, .int .i64 7, .string ⟨#[98]⟩, .slice a3 n3 k3, .slice b3 m3 j3] 24 (0, 0)) := by rw [hwE]; exact (heap_alloc_old _ _ (lt_of_block qw5)).trans qw5
  have q8 : wE.heap[w5.heap.size]? = some (.cells #[.bool true, .int .i64 0, .int .i64 7, .string ⟨#[98]⟩, .slice a3 n3 k3, .slice b3 m3 j3] 24 (0, 0)) := by rw [hwE]; exact heap_alloc_new _ _
  have BwE : Below w5.heap.size w5 wE := by rw [hwE]; exact (Below.refl _ _).alloc (Nat.le_refl _) _
  have OwE := Ow5.below BwE
  have bwE := chain bw5 BwE
  have swE : wE.heap.size = w5.heap.size + 1 := by rw [hwE]; simp
  have h15 := lt_of_block qw5
  clear hwE d0 d1 d2 d3 d4 d5 df
  go_loopw [9] (fun i wr => ∃ (k : Nat) (aa : Option Addr) (nn kk : Nat) (bb : Option Addr) (mm jj : Nat), k ≤ 3 ∧ i = .int .i64 (k : Int) ∧ wr.heap[w5.heap.size]? = some (.cells #[.bool true, .int .i64 0, .int .i64 7, .string ⟨#[98]⟩, .slice aa nn kk, .slice bb mm jj] 24 (0, 0)) ∧ Hid (RdS wr (cK k) (.slice aa nn kk) (.slice bb mm jj)) ∧ wE.grownBy wr (some w5.heap.size)) (fun i _ => 3 - (intOf i).toNat)
  case atStart => exact ⟨0, _, _, _, _, _, _, Nat.zero_le _, rfl, q8, Lib.hid OwE.rds, grown_reflB⟩
  case round =>
    obtain ⟨k, aa, nn, kk, bb, mm, jj, hk, rfl, qr, HR, G⟩ := hrel
    obtain ⟨d0, d1, d2, d3, d4, d5, df⟩ := block_cells6 qr
    by_cases hlt : k < 3
    · go_wp2_with fail
      refine (X6.out k hlt _ _ _ HR.out).mono ?_
      rintro e w9 ⟨a9, n9, k9, b9, m9, j9, rfl, O9, g⟩
      have qw9 := (g.block _ (lt_of_block qr)).trans qr
      have G9 := grown_transB G (grown_none g)
      have hsr := lt_of_block qr
      clear d0 d1 d2 d3 d4 d5 df
      obtain ⟨d0, d1, d2, d3, d4, d5, df⟩ := block_cells6 qw9
      have QF := Lib.hid (set6_new (u0 := .bool true) (u1 := .int .i64 0) (u2 := .int .i64 7) (u3 := .string ⟨#[98]⟩) (u4 := .slice a9 n9 k9) (u5 := .slice b9 m9 j9) qw9)
      have GF := Lib.hid (grown_transB G9 (set6_grown (u0 := .bool true) (u1 := .int .i64 0) (u2 := .int .i64 7) (u3 := .string ⟨#[98]⟩) (u4 := .slice a9 n9 k9) (u5 := .slice b9 m9 j9)))
      have OF := Lib.hid (O9.kept (set6_grown (w := w9) (B := w5.heap.size) (u0 := .bool true) (u1 := .int .i64 0) (u2 := .int .i64 7) (u3 := .string ⟨#[98]⟩) (u4 := .slice a9 n9 k9) (u5 := .slice b9 m9 j9)) hsr).rds
      clear qw9 G9 O9 g qr G HR
      go_wp2_with fail
      exact ⟨⟨k + 1, _, _, _, _, _, _, by omega, by push_cast; rfl, QF.out, OF, GF.out⟩, by simp [intOf]; omega⟩
    · obtain rfl : k = 3 := by omega
      have O1 := Lib.hid (Ow5.off (Nat.le_refl _) wE BwE G)
      have qf := (G.block w1.heap.size (by omega) (fun e => by injection e with e; omega)).trans qwE
      obtain ⟨c0, c1, c2, c3, c4, c5, cf⟩ := block_cells6 qf
      have ovf := (own_rows_below ov BwE).kept G (by
        cases hq : (Value.slice av 3 cv).ownBlock with
        | none => exact .inl rfl
        | some q => refine .inr fun e => ?_; injection e with e; have := (ov.lt q hq).2; omega)
      obtain ⟨gv, hgv⟩ : ∃ gv, av = some ⟨gv, 0, none⟩ := by
        rcases ov.2 with ⟨h1, h2⟩ | ⟨g, cap, cur, h1, _⟩
        · omega
        · injection h1 with h1; exact ⟨g, h1⟩
      subst hgv
      have v0 := ovf.cellAt 10 (by omega)
      have v1 := ovf.cellAt 11 (by omega)
      have v2 := ovf.cellAt 12 (by omega)
      have v3 := ovf.cellAt 13 (by omega)
      have v4 := ovf.cellAt 14 (by omega)
      simp only [List.getElem?_cons_succ, List.getElem?_cons_zero] at v0 v1 v2 v3 v4
      have hgl : gv < wr.heap.size := (ovf.lt gv rfl).2
      have BF := Lib.hid (show Below w.heap.size w wr from below_grownB bwE G bwE.size (by have := bw5.size; omega))
      clear ovf G qwE q8 Ow5 OwE BwE
      go_wp2_with fail
      refine (X7.out _ _ _ O1.out.rds).mono ?_
      rintro e w10 ⟨rfl, g⟩
      replace O1 := Lib.hid (O1.out.below g)
      replace HR := Lib.hid (RdS.below HR.out g (Nat.le_refl _))
      replace BF := Lib.hid (chain BF.out g)
      replace v0 := (g.cell (p := ⟨gv, 10, none⟩) hgl).trans v0
      replace v1 := (g.cell (p := ⟨gv, 11, none⟩) hgl).trans v1
      replace v2 := (g.cell (p := ⟨gv, 12, none⟩) hgl).trans v2
      replace v3 := (g.cell (p := ⟨gv, 13, none⟩) hgl).trans v3
      replace v4 := (g.cell (p := ⟨gv, 14, none⟩) hgl).trans v4
      replace hgl := Nat.lt_of_lt_of_le hgl g.size
      clear c0 c1 c2 c3 c4 c5 cf d0 d1 d2 d3 d4 d5 df
      replace qf := (g.block _ (lt_of_block qf)).trans qf
      obtain ⟨c0, c1, c2, c3, c4, c5, cf⟩ := block_cells6 qf
      replace qr := (g.block _ (lt_of_block qr)).trans qr
      obtain ⟨d0, d1, d2, d3, d4, d5, df⟩ := block_cells6 qr
      clear g
      go_wp2_with fail
      refine (X8.out _ _ _ O1.out.rds).mono ?_
      rintro e w11 ⟨rfl, g⟩
      replace O1 := Lib.hid (O1.out.below g)
      replace HR := Lib.hid (RdS.below HR.out g (Nat.le_refl _))
      replace BF := Lib.hid (chain BF.out g)
      replace v0 := (g.cell (p := ⟨gv, 10, none⟩) hgl).trans v0
      replace v1 := (g.cell (p := ⟨gv, 11, none⟩) hgl).trans v1
      replace v2 := (g.cell (p := ⟨gv, 12, none⟩) hgl).trans v2
      replace v3 := (g.cell (p := ⟨gv, 13, none⟩) hgl).trans v3
      replace v4 := (g.cell (p := ⟨gv, 14, none⟩) hgl).trans v4
      replace hgl := Nat.lt_of_lt_of_le hgl g.size
      clear c0 c1 c2 c3 c4 c5 cf d0 d1 d2 d3 d4 d5 df
      replace qf := (g.block _ (lt_of_block qf)).trans qf
      obtain ⟨c0, c1, c2, c3, c4, c5, cf⟩ := block_cells6 qf
      replace qr := (g.block _ (lt_of_block qr)).trans qr
      obtain ⟨d0, d1, d2, d3, d4, d5, df⟩ := block_cells6 qr
      clear g
      go_wp2_with fail
      refine (X9.out _ _ _ HR.out).mono ?_
      rintro e w12 ⟨rfl, g⟩
      have BF := chain BF.out g
      go_wp2_with fail
      go_ret
      exact ⟨rfl, BF⟩
end Go.Proofs.YtgmblgpfgdfnaaaDoor
