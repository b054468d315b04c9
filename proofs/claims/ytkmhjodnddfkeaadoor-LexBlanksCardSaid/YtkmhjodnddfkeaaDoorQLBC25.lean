/- Lex: awake; LexNumbers. Written by wip/tools/gen16n.py. -/
import Derived.Test.YtkmhjodnddfkeaaDoorQLBC24
namespace Go.Proofs.YtkmhjodnddfkeaaDoor
open Go Go.RowKit
set_option linter.unusedVariables false
set_option linter.unusedSimpArgs false
set_option maxRecDepth 100000
def awL : List Tp := [⟨5, 0, [112, 117, 116], 0⟩, ⟨3, 4, [97], 0⟩, ⟨4, 7, [44], 0⟩, ⟨2, 9, [], 1⟩, ⟨4, 10, [59], 0⟩, ⟨0, 11, [], 0⟩]
theorem toks1 : toksP [112, 117, 116, 32, 34, 97, 34, 44, 32, 49, 59] = .inr awL := by kernel_rfl
theorem toks2 : toksP [48, 49] = .inl (3, 0) := by kernel_rfl
theorem toks3 : toksP [34, 97] = .inl (2, 0) := by kernel_rfl
theorem word1 : wordB [116, 114, 117, 101] = true := by kernel_rfl
set_option maxHeartbeats 4000000 in
theorem awake_any (w : World) (tab : TabX w) : Calls Tryd.prog 7 #[] w fun e w' => e = .returned (.bool true) ∧ Below w.heap.size w w' := by
  have T1 := Lib.hid (fun w' (t : TabX w') => (show Calls Tryd.prog 12 #[.string ⟨#[112, 117, 116, 32, 34, 97, 34, 44, 32, 49, 59]⟩] w' fun e w'' => (∃ ao cap, e = .returned (.tuple #[.slice ao 6 cap, .int .i64 0, .int .i64 0]) ∧ Hid (RdK 4 tpC w'' (.slice ao 6 cap) awL)) ∧ Hid (Below w'.heap.size w' w'') by
    refine (tokens_any [112, 117, 116, 32, 34, 97, 34, 44, 32, 49, 59] w' t).mono ?_
    rw [toks1]
    rintro e w'' ⟨⟨v, rfl, rd, -⟩, b⟩
    obtain ⟨ao, cap, rfl, -, -, rd2⟩ := rd.open
    exact ⟨⟨ao, cap, rfl, Lib.hid rd2⟩, Lib.hid b⟩))
  have T2 := Lib.hid (fun w' (t : TabX w') => (show Calls Tryd.prog 12 #[.string ⟨#[48, 49]⟩] w' fun e w'' => e = .returned (.tuple #[.slice none 0 0, .int .i64 3, .int .i64 0]) ∧ Hid (Below w'.heap.size w' w'') by
    refine (tokens_any [48, 49] w' t).mono ?_
    rw [toks2]
    rintro e w'' ⟨rfl, b⟩
    exact ⟨rfl, Lib.hid b⟩))
  have T3 := Lib.hid (fun w' (t : TabX w') => (show Calls Tryd.prog 12 #[.string ⟨#[34, 97]⟩] w' fun e w'' => e = .returned (.tuple #[.slice none 0 0, .int .i64 2, .int .i64 0]) ∧ Hid (Below w'.heap.size w' w'') by
    refine (tokens_any [34, 97] w' t).mono ?_
    rw [toks3]
    rintro e w'' ⟨rfl, b⟩
    exact ⟨rfl, Lib.hid b⟩))
  have WD := Lib.hid (fun w' (t : TabX w') => (show Calls Tryd.prog 10 #[.string ⟨#[116, 114, 117, 101]⟩] w' fun e w'' => e = .returned (.bool true) ∧ w' = w'' by
    refine (word_any [116, 114, 117, 101] w' t).mono ?_
    rw [word1]
    rintro e w'' ⟨rfl, rfl⟩
    exact ⟨rfl, rfl⟩))
  have TAB := Lib.hid tab
  clear tab
  go_enter Tryd.func7, Tryd.ntmps7
  go_upto_region 2 with ((with_reducible refine (T1.out _ TAB.out).mono ?_); rintro e w1 ⟨⟨ao, cap, rfl, RD⟩, B1⟩; (have T1B : Hid (TabX w1) := Lib.hid (TAB.out.below B1.out)))
  go_upto_region 3 with ((with_reducible refine (T2.out _ T1B.out).mono ?_); rintro e w2 ⟨rfl, B2⟩; (have T2B : Hid (TabX w2) := Lib.hid (T1B.out.below B2.out)))
  go_upto_region 4 with ((with_reducible refine (T3.out _ T2B.out).mono ?_); rintro e w3 ⟨rfl, B3⟩; (have T3B : Hid (TabX w3) := Lib.hid (T2B.out.below B3.out)))
  have RD3 := (RD.out.below B2.out (Nat.le_refl _)).below B3.out (Nat.le_refl _)
  obtain ⟨b, off, rfl, hb, hc⟩ : ∃ b off, ao = some ⟨b, off, none⟩ ∧ b < w3.heap.size ∧ ∀ i, i < 24 → w3.cell? ⟨b, off + i, none⟩ = (awL.flatMap tpC)[i]? := by
    obtain ⟨ao', cap', h1, h2, h3, h4, h5⟩ := RD3
    obtain ⟨b, off, h6, h7, h8⟩ := h5 (by decide)
    injection h1 with h1 h9 h10
    exact ⟨b, off, h1.trans h6, h7, h8⟩
  have c0 : w3.cell? ⟨b, off, none⟩ = some (.int .i64 5) := hc 0 (by decide)
  have c1 : w3.cell? ⟨b, off + 1, none⟩ = some (.int .i64 0) := hc 1 (by decide)
  have c2 : w3.cell? ⟨b, off + 2, none⟩ = some (.string ⟨#[112, 117, 116]⟩) := hc 2 (by decide)
  have c3 : w3.cell? ⟨b, off + 3, none⟩ = some (.int .i64 0) := hc 3 (by decide)
  have c4 : w3.cell? ⟨b, off + 4, none⟩ = some (.int .i64 3) := hc 4 (by decide)
  have c5 : w3.cell? ⟨b, off + 5, none⟩ = some (.int .i64 4) := hc 5 (by decide)
  have d5 : w3.cell? ⟨b, off + 4 + 1, none⟩ = some (.int .i64 4) := hc 5 (by decide)
  have c6 : w3.cell? ⟨b, off + 6, none⟩ = some (.string ⟨#[97]⟩) := hc 6 (by decide)
  have d6 : w3.cell? ⟨b, off + 4 + 2, none⟩ = some (.string ⟨#[97]⟩) := hc 6 (by decide)
  have c7 : w3.cell? ⟨b, off + 7, none⟩ = some (.int .i64 0) := hc 7 (by decide)
  have d7 : w3.cell? ⟨b, off + 4 + 3, none⟩ = some (.int .i64 0) := hc 7 (by decide)
  have c12 : w3.cell? ⟨b, off + 12, none⟩ = some (.int .i64 2) := hc 12 (by decide)
  have c13 : w3.cell? ⟨b, off + 13, none⟩ = some (.int .i64 9) := hc 13 (by decide)
  have d13 : w3.cell? ⟨b, off + 12 + 1, none⟩ = some (.int .i64 9) := hc 13 (by decide)
  have c14 : w3.cell? ⟨b, off + 14, none⟩ = some (.string ⟨#[]⟩) := hc 14 (by decide)
  have d14 : w3.cell? ⟨b, off + 12 + 2, none⟩ = some (.string ⟨#[]⟩) := hc 14 (by decide)
  have c15 : w3.cell? ⟨b, off + 15, none⟩ = some (.int .i64 1) := hc 15 (by decide)
  have d15 : w3.cell? ⟨b, off + 12 + 3, none⟩ = some (.int .i64 1) := hc 15 (by decide)
  have c20 : w3.cell? ⟨b, off + 20, none⟩ = some (.int .i64 0) := hc 20 (by decide)
  have c21 : w3.cell? ⟨b, off + 21, none⟩ = some (.int .i64 11) := hc 21 (by decide)
  have d21 : w3.cell? ⟨b, off + 20 + 1, none⟩ = some (.int .i64 11) := hc 21 (by decide)
  have c22 : w3.cell? ⟨b, off + 22, none⟩ = some (.string ⟨#[]⟩) := hc 22 (by decide)
  have d22 : w3.cell? ⟨b, off + 20 + 2, none⟩ = some (.string ⟨#[]⟩) := hc 22 (by decide)
  have c23 : w3.cell? ⟨b, off + 23, none⟩ = some (.int .i64 0) := hc 23 (by decide)
  have d23 : w3.cell? ⟨b, off + 20 + 3, none⟩ = some (.int .i64 0) := hc 23 (by decide)
  have BB : Hid (Below w.heap.size w w3) := Lib.hid ((B1.out.trans (B2.out.mono B1.out.size)).trans (B3.out.mono (Nat.le_trans B1.out.size B2.out.size)))
  clear hc RD3 RD
  go_wp2_with ((with_reducible refine (WD.out _ T3B.out).mono ?_); rintro e w4 ⟨rfl, rfl⟩)
  go_ret
  exact ⟨rfl, BB.out⟩
theorem numbers_any (w : World) (tab : TabX w) : Calls Tryd.prog 3 #[] w fun e w' => e = .returned (.bool true) ∧ Below w.heap.size w w' := by
  have AW := Lib.hid (awake_any w tab)
  clear tab
  go_enter Tryd.func3, Tryd.ntmps3
  go_wp2_with (refine (AW.out).mono ?_; rintro e w1 ⟨rfl, b1⟩)
  go_ret
  exact ⟨rfl, b1⟩
end Go.Proofs.YtkmhjodnddfkeaaDoor
