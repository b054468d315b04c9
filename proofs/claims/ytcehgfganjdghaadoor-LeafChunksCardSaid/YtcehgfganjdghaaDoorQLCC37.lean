/- Leaves: the chapter's examples. Written by wip/tools/gen9k.py. -/
import Derived.Test.YtcehgfganjdghaaDoorQLCC36
import Derived.Test.YtcehgfganjdghaaDoorQLCC31
namespace Go.Proofs.YtcehgfganjdghaaDoor
open Go Go.RowKit
set_option linter.unusedVariables false
set_option linter.unusedSimpArgs false
def exI : It := ⟨[97], ⟨2, 1, []⟩, 5⟩
theorem ex_may : mayI exI = true := by decide
theorem ex_sz : SzI [exI] := by intro x hx; simp at hx; subst hx; decide
theorem ex_wf : WfI [exI] := by intro x hx; simp at hx; subst hx; unfold I64 exI; decide
theorem ex_is : isL [exI] = true := by decide
theorem ex_putE : putE [] exI = 0 := by decide
theorem ex_putR : putR [] exI = [exI] := by unfold putR; rw [ex_putE]; rfl
theorem ex_at : atL [exI] [97] = some exI := by rfl
theorem ex_get : getT [exI] [97] = .tuple #[itV exI, .bool true] := getT_some ex_is ex_at
theorem ex_found : foundL [exI] [97] = true := by decide
theorem ex_nf : foundL [] [97] = false := by decide
theorem ex_nil : isL [] = true := by decide
theorem ex_delE : delE [exI] [97] = 0 := by unfold delE; rw [ex_is, ex_found]; rfl
theorem ex_delR : delR [exI] [97] = [] := by unfold delR; rw [ex_delE]; rfl
theorem ex_delE2 : delE [] [97] = 6 := by unfold delE; rw [ex_nil, ex_nf]; rfl
theorem ex_delR2 : delR [] [97] = [] := by unfold delR; rw [ex_delE2]; rfl
theorem ex_chunks : chunksL [exI] = [[1, 1, 97, 2, 2, 5]] := by decide
theorem ex_weight : weightL [exI] = 3 := by decide
theorem slice_of_rd {w : World} {v : Value} {l : List It} (h : RdI w v l) : ∃ ao cap, v = .slice ao l.length cap ∧ l.length ≤ cap ∧ cap ≤ 9223372036854775807 := by
  obtain ⟨ao, cap, h1, h2, h3, h4⟩ := RdK.open h
  exact ⟨ao, cap, h1, h2, h3⟩
theorem put_ex (w : World) (tab : TabAt w) : Calls Tryd.prog 19 #[.slice none 0 0, .agg #[.string ⟨#[97]⟩, .int .i64 2, .int .i64 1, .string (str []), .int .i64 5]] w fun e w' => ∃ ao cap, e = .returned (.tuple #[.slice ao 1 cap, .int .i64 0]) ∧ 1 ≤ cap ∧ cap ≤ 9223372036854775807 ∧ RdI w' (.slice ao 1 cap) [exI] ∧ Below w.heap.size w w' := by
  refine (lput_any (.slice none 0 0) [] exI w tab (rdk_nil w) (by intro x hx; simp at hx) (by decide) (by decide)).mono ?_
  rintro e w' ⟨v, rfl, ho, hb⟩
  rw [ex_putR] at ho
  rw [ex_putE]
  have hr := OwnI.rd (w := w) ho
  obtain ⟨ao, cap, rfl, h1, h2⟩ := slice_of_rd hr
  exact ⟨ao, cap, rfl, h1, h2, hr, hb⟩
theorem get_ex (ao : Option Addr) (cap : Nat) (w : World) (tab : TabAt w) (h : RdI w (.slice ao 1 cap) [exI]) : Calls Tryd.prog 18 #[.slice ao 1 cap, .string ⟨#[97]⟩] w fun e w' => e = .returned (.tuple #[.agg #[.string ⟨#[97]⟩, .int .i64 2, .int .i64 1, .string (str []), .int .i64 5], .bool true]) ∧ Below w.heap.size w w' := by
  have := lget_any (.slice ao 1 cap) [exI] [97] w tab h ex_sz
  rw [ex_get] at this
  exact this
theorem del_ex (ao : Option Addr) (cap : Nat) (w : World) (tab : TabAt w) (h : RdI w (.slice ao 1 cap) [exI]) : Calls Tryd.prog 20 #[.slice ao 1 cap, .string ⟨#[97]⟩] w fun e w' => ∃ a2 c2, e = .returned (.tuple #[.slice a2 0 c2, .int .i64 0]) ∧ 0 ≤ c2 ∧ c2 ≤ 9223372036854775807 ∧ RdI w' (.slice a2 0 c2) [] ∧ Below w.heap.size w w' := by
  refine (ldel_any (.slice ao 1 cap) [exI] [97] w tab h ex_sz).mono ?_
  rintro e w' ⟨v, rfl, ho, hb⟩
  rw [ex_delR] at ho
  rw [ex_delE]
  have hr := OwnI.rd (w := w) ho
  obtain ⟨a2, c2, rfl, h1, h2⟩ := slice_of_rd hr
  exact ⟨a2, c2, rfl, h1, h2, hr, hb⟩
theorem del_ex2 (ao : Option Addr) (cap : Nat) (w : World) (tab : TabAt w) (h : RdI w (.slice ao 0 cap) []) : Calls Tryd.prog 20 #[.slice ao 0 cap, .string ⟨#[97]⟩] w fun e w' => ∃ v, e = .returned (.tuple #[v, .int .i64 6]) ∧ Below w.heap.size w w' := by
  refine (ldel_any (.slice ao 0 cap) [] [97] w tab h (by intro x hx; simp at hx)).mono ?_
  rintro e w' ⟨v, rfl, ho, hb⟩
  rw [ex_delE2]
  exact ⟨v, rfl, hb⟩
theorem chunks_ex (ao : Option Addr) (cap : Nat) (w : World) (tab : TabAt w) (h : RdI w (.slice ao 1 cap) [exI]) : Calls Tryd.prog 29 #[.slice ao 1 cap] w fun e w' => ∃ g2 c2 u, e = .returned (.slice (some ⟨g2, 0, none⟩) 1 c2) ∧ 1 ≤ c2 ∧ c2 ≤ 9223372036854775807 ∧ g2 < w'.heap.size ∧ w'.cell? ⟨g2, 0, none⟩ = some u ∧ Rd w' u [1, 1, 97, 2, 2, 5] ∧ Below w.heap.size w w' := by
  refine (chunks_yes ao cap [exI] w tab h ex_is ex_sz ex_wf).mono ?_
  rintro e w' ⟨v, vs, rfl, ho, hR, hb⟩
  rw [ex_chunks] at hR
  have hl : vs.length = 1 := hR.1
  obtain ⟨u, rfl⟩ : ∃ u, vs = [u] := by
    match vs, hl with
    | [u], _ => exact ⟨u, rfl⟩
  obtain ⟨g2, c2, rfl, h1, h2⟩ := slice_of_own ho (by simp)
  have hc := ho.cellAt 0 (by simp)
  obtain ⟨l, h3, h4⟩ := hR.2 0 u rfl
  simp at h3
  subst h3
  exact ⟨g2, c2, u, rfl, h1, by unfold maxLen at h2; simpa using h2, (ho.lt g2 rfl).2, by simpa using hc, own_rd' h4, hb⟩
theorem weight_ex (ao : Option Addr) (cap : Nat) (w : World) (tab : TabAt w) (h : RdI w (.slice ao 1 cap) [exI]) : Calls Tryd.prog 14 #[.slice ao 1 cap] w fun e w' => e = .returned (.int .i64 3) ∧ Below w.heap.size w w' := by
  have := weight_any (.slice ao 1 cap) [exI] w tab h ex_sz ex_wf
  rw [ex_weight] at this
  exact this
theorem eq_ex (w : World) : (binOp .eql 32 (.agg #[.string ⟨#[97]⟩, .int .i64 2, .int .i64 1, .string (str []), .int .i64 5]) (.agg #[.string ⟨#[97]⟩, .int .i64 2, .int .i64 1, .string (str []), .int .i64 5])).run Tryd.prog w = .ok (.bool true) w := it_eq_same exI w
set_option maxRecDepth 100000 in
set_option maxHeartbeats 2000000 in
theorem awake9_any : Ret 15 #[] (.bool true) := by
  intro w tab
  have EQ := fun W => eq_ex W
  have st : (ByteArray.mk #[1, 1, 97, 2, 2, 5]) = str [1, 1, 97, 2, 2, 5] := rfl
  have ST := Lib.hid st
  clear st
  go_enter Tryd.func15, Tryd.ntmps15
  go_wp2_with fail
  refine (V7.refInt_any 1 _).mono ?_
  rintro e w1 ⟨rfl, b1⟩
  have q1 := heap_alloc_new w1 (.cells #[.string ⟨#[97]⟩, .int .i64 2, .int .i64 1, .string (str []), .int .i64 5] 32)
  have a1 := (Below.refl w1.heap.size w1).alloc (Nat.le_refl _) (.cells #[.string ⟨#[97]⟩, .int .i64 2, .int .i64 1, .string (str []), .int .i64 5] 32)
  have B1 := chain b1 a1
  have t1 := tab.below B1
  go_wp2_with fail
  refine (put_ex _ t1).mono ?_
  rintro e w2 ⟨ao, cap, rfl, k1, k2, hr2, g2⟩
  have q2 := (g2.block _ (lt_of_block q1)).trans q1
  have B2 := chain B1 g2
  have t2 := tab.below B2
  clear q1 a1 b1 B1 t1 g2
  go_wp2_with fail
  refine (get_ex ao cap _ t2 hr2).mono ?_
  rintro e w3 ⟨rfl, g3⟩
  have q3 := (g3.block _ (lt_of_block q2)).trans q2
  have p3 := heap_alloc_new w3 (.cells #[.string ⟨#[97]⟩, .int .i64 2, .int .i64 1, .string (str []), .int .i64 5] 32)
  have a3 := (Below.refl w3.heap.size w3).alloc (Nat.le_refl _) (.cells #[.string ⟨#[97]⟩, .int .i64 2, .int .i64 1, .string (str []), .int .i64 5] 32)
  have q3' := (a3.block _ (lt_of_block q3)).trans q3
  have B3 := chain (chain B2 g3) a3
  have t3 := tab.below B3
  have hr3 := (hr2.below g3 (Nat.le_refl _)).below a3 (Nat.le_refl _)
  clear q2 B2 t2 g3 q3 a3 hr2
  go_wp2_with fail
  refine (del_ex ao cap _ t3 hr3).mono ?_
  rintro e w4 ⟨a2, c2, rfl, k3, k4, hd4, g4⟩
  have q4 := (g4.block _ (lt_of_block q3')).trans q3'
  have p4 := (g4.block _ (lt_of_block p3)).trans p3
  have B4 := chain B3 g4
  have t4 := tab.below B4
  have hr4 := hr3.below g4 (Nat.le_refl _)
  clear q3' p3 B3 t3 g4 hr3
  go_wp2_with fail
  refine (del_ex2 a2 c2 _ t4 hd4).mono ?_
  rintro e w5 ⟨v5, rfl, g5⟩
  have q5 := (g5.block _ (lt_of_block q4)).trans q4
  have p5 := (g5.block _ (lt_of_block p4)).trans p4
  have B5 := chain B4 g5
  have t5 := tab.below B5
  have hr5 := hr4.below g5 (Nat.le_refl _)
  clear q4 p4 B4 t4 g5 hr4 hd4
  go_wp2_with fail
  refine (chunks_ex ao cap _ t5 hr5).mono ?_
  rintro e w6 ⟨g2, c6, u, rfl, k5, k6, hg2, hc2, hrd, g6⟩
  have q6 := (g6.block _ (lt_of_block q5)).trans q5
  have p6 := (g6.block _ (lt_of_block p5)).trans p5
  have B6 := chain B5 g6
  have t6 := tab.below B6
  have hr6 := hr5.below g6 (Nat.le_refl _)
  have cv : (convert 58 9 u).run Tryd.prog w6 = .ok (.string (ByteArray.mk #[1, 1, 97, 2, 2, 5])) w6 := conv_rd hrd 58 5 9 Tryd.underlying58 Tryd.underlying5 Tryd.underlying9
  obtain ⟨d0, d1, d2, d3, d4, dz⟩ := block_cells5 q6
  obtain ⟨f0, f1, f2, f3, f4, fz⟩ := block_cells5 p6
  have W6 := Lib.hid (weight_ex ao cap _ t6 hr6)
  clear q5 p5 B5 t5 g6 hr5 hrd q6 p6 t6 hr6
  go_wp2_with fail
  refine W6.out.mono ?_
  rintro e w7 ⟨rfl, g7⟩
  go_wp2_with fail
  go_ret
  exact ⟨rfl, chain B6 g7⟩
end Go.Proofs.YtcehgfganjdghaaDoor
