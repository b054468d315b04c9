/- Keys: the chapter's examples. -/
import Derived.Test.YtkcflkgfipfdfaaDoorK8I
namespace Go.Proofs.YtkcflkgfipfdfaaDoor
open Go Go.RowKit
set_option linter.unusedVariables false
set_option linter.unusedSimpArgs false
theorem parts_ex : partsB [97, 47, 47, 98] = [[97], [], [98]] := by decide
set_option maxRecDepth 100000 in
set_option maxHeartbeats 1000000 in
theorem awake_any : Ret 16 #[] (.bool true) := by
  have P : ∀ w, TabAt w → Calls Tryd.prog 18 #[.string (ByteArray.mk #[97, 47, 47, 98])] w fun e w' => ∃ gb cap, e = .returned (.slice (some ⟨gb, 0, none⟩) 3 cap) ∧ 3 ≤ cap ∧ cap ≤ 9223372036854775807 ∧ gb < w'.heap.size ∧ w'.cell? ⟨gb, 1, none⟩ = some (.string (ByteArray.mk #[])) ∧ w'.cell? ⟨gb, 2, none⟩ = some (.string (ByteArray.mk #[98])) ∧ Below w.heap.size w w' := by
    intro w t
    refine (list_any [97, 47, 47, 98] (by decide) w t).mono ?_
    rintro e w' ⟨v, rfl, ho, hb⟩
    rw [parts_ex] at ho
    obtain ⟨g, cap, rfl, h1, h2⟩ := slice_of_own ho (by decide)
    have c1 := ho.cellAt 1 (by decide)
    have c2 := ho.cellAt 2 (by decide)
    exact ⟨g, cap, rfl, h1, by unfold maxLen at h2; simpa using h2, (ho.lt g rfl).2, by simpa [sv, str] using c1, by simpa [sv, str] using c2, hb⟩
  have RG : Ret 20 #[.string (ByteArray.mk #[97, 47])] (.tuple #[.string (ByteArray.mk #[97, 47]), .string (ByteArray.mk #[97, 48]), .int .i64 0]) := range_any [97, 47] (by decide)
  have A1 : Ret 12 #[.string (ByteArray.mk #[97, 47, 49])] (.bool true) := bool_cast (is_any [97, 47, 49] (by decide)).ret (by decide)
  have A2 : Ret 12 #[.string (ByteArray.mk #[65])] (.bool false) := bool_cast (is_any [65] (by decide)).ret (by decide)
  have A3 : Ret 14 #[.string (ByteArray.mk #[97, 47, 49]), .string (ByteArray.mk #[97, 47])] (.bool true) := bool_cast (under_any [97, 47, 49] [97, 47] (by decide) (by decide)) (by decide)
  have A4 : Ret 15 #[.string (ByteArray.mk #[97])] (.int .i64 1) := bucket_any [97] (by decide)
  have A5 : Ret 15 #[.string (ByteArray.mk #[112])] (.int .i64 0) := bucket_any [112] (by decide)
  have A6 : Ret 25 #[.string (ByteArray.mk #[97, 47]), .string (ByteArray.mk #[97, 47, 49])] (.bool true) := bool_cast (meet_any [97, 47] [97, 47, 49] (by decide) (by decide)) (by decide)
  have A7 : Ret 25 #[.string (ByteArray.mk #[97]), .string (ByteArray.mk #[98])] (.bool false) := bool_cast (meet_any [97] [98] (by decide) (by decide)) (by decide)
  intro w tab
  go_enter Tryd.func16, Tryd.ntmps16
  go_wp2_with fail
  refine (P _ tab).mono ?_
  rintro e w1 ⟨gb, cap, rfl, h1, h2, hgb, c1, c2, bel⟩
  have tab := tab.below bel
  clear P
  go_wp2_with (first
   | ((with_reducible refine (RG.at _ tab).mono ?_); rintro e w' ⟨rfl, gg⟩; have tab := tab.below gg; have c1 := (gg.cell (p := ⟨gb, 1, none⟩) hgb).trans c1; have c2 := (gg.cell (p := ⟨gb, 2, none⟩) hgb).trans c2; have hgb := Nat.lt_of_lt_of_le hgb gg.size; have bel := chain bel gg; clear gg)
   | ((with_reducible refine (A1.at _ tab).mono ?_); rintro e w' ⟨rfl, gg⟩; have tab := tab.below gg; have c1 := (gg.cell (p := ⟨gb, 1, none⟩) hgb).trans c1; have c2 := (gg.cell (p := ⟨gb, 2, none⟩) hgb).trans c2; have hgb := Nat.lt_of_lt_of_le hgb gg.size; have bel := chain bel gg; clear gg)
   | ((with_reducible refine (A2.at _ tab).mono ?_); rintro e w' ⟨rfl, gg⟩; have tab := tab.below gg; have c1 := (gg.cell (p := ⟨gb, 1, none⟩) hgb).trans c1; have c2 := (gg.cell (p := ⟨gb, 2, none⟩) hgb).trans c2; have hgb := Nat.lt_of_lt_of_le hgb gg.size; have bel := chain bel gg; clear gg)
   | ((with_reducible refine (A3.at _ tab).mono ?_); rintro e w' ⟨rfl, gg⟩; have tab := tab.below gg; have c1 := (gg.cell (p := ⟨gb, 1, none⟩) hgb).trans c1; have c2 := (gg.cell (p := ⟨gb, 2, none⟩) hgb).trans c2; have hgb := Nat.lt_of_lt_of_le hgb gg.size; have bel := chain bel gg; clear gg)
   | ((with_reducible refine (A4.at _ tab).mono ?_); rintro e w' ⟨rfl, gg⟩; have tab := tab.below gg; have c1 := (gg.cell (p := ⟨gb, 1, none⟩) hgb).trans c1; have c2 := (gg.cell (p := ⟨gb, 2, none⟩) hgb).trans c2; have hgb := Nat.lt_of_lt_of_le hgb gg.size; have bel := chain bel gg; clear gg)
   | ((with_reducible refine (A5.at _ tab).mono ?_); rintro e w' ⟨rfl, gg⟩; have tab := tab.below gg; have c1 := (gg.cell (p := ⟨gb, 1, none⟩) hgb).trans c1; have c2 := (gg.cell (p := ⟨gb, 2, none⟩) hgb).trans c2; have hgb := Nat.lt_of_lt_of_le hgb gg.size; have bel := chain bel gg; clear gg)
   | ((with_reducible refine (A6.at _ tab).mono ?_); rintro e w' ⟨rfl, gg⟩; have tab := tab.below gg; have c1 := (gg.cell (p := ⟨gb, 1, none⟩) hgb).trans c1; have c2 := (gg.cell (p := ⟨gb, 2, none⟩) hgb).trans c2; have hgb := Nat.lt_of_lt_of_le hgb gg.size; have bel := chain bel gg; clear gg)
   | ((with_reducible refine (A7.at _ tab).mono ?_); rintro e w' ⟨rfl, gg⟩; have tab := tab.below gg; have c1 := (gg.cell (p := ⟨gb, 1, none⟩) hgb).trans c1; have c2 := (gg.cell (p := ⟨gb, 2, none⟩) hgb).trans c2; have hgb := Nat.lt_of_lt_of_le hgb gg.size; have bel := chain bel gg; clear gg))
  go_ret
  exact ⟨rfl, bel⟩
end Go.Proofs.YtkcflkgfipfdfaaDoor
