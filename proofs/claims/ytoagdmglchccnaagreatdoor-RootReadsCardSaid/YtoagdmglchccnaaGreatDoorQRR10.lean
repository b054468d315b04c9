/- The document's own answers of layer 1, as walks: each comes to what the plain function says. -/
/- Texts of layer 1. -/
/- The library's Cut at a comma. Written by wip/tools/gen12e.py. -/
import Derived.Test.YtoagdmglchccnaaGreatDoorQRR9
import Derived.Laws.AppendOwnNone
import Derived.Test.YtoagdmglchccnaaGreatDoorQRR7
import Derived.Test.YtoagdmglchccnaaGreatDoorQRR4
namespace Go.Proofs.YtoagdmglchccnaaGreatDoor
open Go.RowKit
set_option linter.unusedVariables false
set_option linter.unusedSimpArgs false
end Go.Proofs.YtoagdmglchccnaaGreatDoor
namespace Go.Proofs.YtoagdmglchccnaaGreatDoor
open Go.RowKit
set_option linter.unusedVariables false
set_option linter.unusedSimpArgs false
set_option maxRecDepth 100000 in
theorem refCutInt_at (l : List UInt8) (x n c : Nat) (hr : Hid (cutL l = (x, n, c))) (hlen : l.length ≤ maxLen) (w : World) :
    Calls Tryz.prog 152 #[.string (str l)] w fun e w' => e = .returned (.tuple #[.int .i64 (unzig x), .int .i64 n, .int .i64 c]) ∧ w = w' := by
  have hx := Lib.hid (cutL_facts hr.out).1
  have h2 : x % 2 = 1 ∨ x % 2 ≤ 0 := by omega
  rcases h2 with h2 | h2
  all_goals
   go_enter Tryz.func152, Tryz.ntmps152
   go_wp2_with (go_at_call 128; refine (refCut_at _ x n c hr hlen _).mono ?_; rintro e w' ⟨rfl, rfl⟩)
   have hx' := hx.out
   go_ret3
   refine ⟨?_, rfl⟩
   have : ∀ y : Int, y = unzig x → Ending.returned (.tuple #[.int .i64 y, .int .i64 n, .int .i64 c]) = Ending.returned (.tuple #[.int .i64 (unzig x), .int .i64 n, .int .i64 c]) := fun y h => by rw [h]
   refine this _ ?_
   unfold unzig wrap64
   simp only [IntKind.wrap_u64]
   split <;> omega
/-- What a text is read as. -/
def cutTextL (l : List UInt8) : List UInt8 × Nat × Nat :=
  match cutL l with
  | (x, n, c) => if c ≠ 0 then ([], 0, c) else if 255 < x then ([], 0, 8) else if l.length < n + x then ([], 0, 2) else ((l.drop n).take x, n + x, 0)
theorem cutTextL_eq {l : List UInt8} {x n c : Nat} (h : cutL l = (x, n, c)) : cutTextL l = if c ≠ 0 then ([], 0, c) else if 255 < x then ([], 0, 8) else if l.length < n + x then ([], 0, 2) else ((l.drop n).take x, n + x, 0) := by
  unfold cutTextL; rw [h]
theorem str_extract (l : List UInt8) (i j : Nat) : (str l).extract i j = str ((l.drop i).take (j - i)) := by
  apply ByteArray.ext
  simp [str, ByteArray.data_extract]
theorem str_append (a b : List UInt8) : str a ++ str b = str (a ++ b) := by
  apply ByteArray.ext
  simp [str, ByteArray.data_append]
set_option maxRecDepth 100000 in
theorem refCutText_at (l : List UInt8) (x n c : Nat) (hr : Hid (cutL l = (x, n, c))) (hlen : l.length ≤ 2000) (w : World) :
    Calls Tryz.prog 126 #[.string (str l)] w fun e w' => e = .returned (.tuple #[.string (str (cutTextL l).1), .int .i64 (cutTextL l).2.1, .int .i64 (cutTextL l).2.2]) ∧ w = w' := by
  have hsz : (str l).size = l.length := str_size l
  have hf := cutL_facts hr.out
  obtain ⟨f1, f2, f3, f4, f5, f6⟩ := hf
  have hv := Lib.hid f1
  have h4 := Lib.hid f4
  clear f1 f4 f5 f6
  have hml : l.length ≤ maxLen := by unfold maxLen; omega
  go_enter Tryz.func126, Tryz.ntmps126
  have K := Lib.hid (cutTextL_eq hr.out)
  have hc : 0 < c ∨ c ≤ 0 := by omega
  rcases hc with hc | hc
  all_goals
    go_wp2_with (go_at_call 128; refine (refCut_at _ x n c hr hml _).mono ?_; rintro e w' ⟨rfl, rfl⟩)
  all_goals
    go_ret3
    refine ⟨?_, rfl⟩
    rw [K.out]
  · rw [if_pos (by omega)]; rfl
  · rw [if_neg (by omega), if_pos (by omega)]; rfl
  · rw [if_neg (by omega), if_neg (by omega), if_pos (by omega)]; rfl
  · rw [if_neg (by omega), if_neg (by omega), if_neg (by omega)]
    show Ending.returned (.tuple #[.string ((str l).extract n (n + x)), .int .i64 ((n : Int) + (x : Int)), .int .i64 0]) = _
    rw [str_extract]; simp
end Go.Proofs.YtoagdmglchccnaaGreatDoor
namespace Go.Proofs.YtoagdmglchccnaaGreatDoor
open Go Go.RowKit
set_option linter.unusedVariables false
set_option linter.unusedSimpArgs false
theorem cut_out (s : T2.Txt) (w : World) (h : Lib.indexByte s 44 = -1) : Calls Tryz.prog 120 #[.string (str s), .string (str [44])] w fun e w' => e = .returned (.tuple #[.string (str s), .string (str []), .bool false]) ∧ Below w.heap.size w w' := by
  obtain ⟨Z, hZ⟩ : ∃ Z : Ending → World → Prop, Z = fun e w' => e = .returned (.tuple #[.string (str s), .string (str []), .bool false]) ∧ Below w.heap.size w w' := ⟨_, rfl⟩
  rw [← hZ]
  have HZ := Lib.hid hZ
  clear hZ
  have IX := fun w => Tryz.stringslite_Index_one (str s) 44 w
  rw [str_toList, h] at IX
  have IX := Lib.hid IX
  go_enter Tryz.func120, Tryz.ntmps120
  go_wp2_with fail
  refine (IX.out _).mono ?_
  rintro e w1 ⟨rfl, rfl⟩
  go_wp2_with fail
  show Z _ _
  rw [HZ.out]
  exact ⟨rfl, Below.refl _ _⟩
theorem cut_in (s : T2.Txt) (i q : Nat) (hq : q = i + 1) (w : World) (h : Lib.indexByte s 44 = (i : Int)) (hi : i + 1 ≤ s.length) (h63 : s.length ≤ maxLen) : Calls Tryz.prog 120 #[.string (str s), .string (str [44])] w fun e w' => e = .returned (.tuple #[.string ((str s).extract 0 i), .string ((str s).extract q s.length), .bool true]) ∧ Below w.heap.size w w' := by
  obtain ⟨Z, hZ⟩ : ∃ Z : Ending → World → Prop, Z = fun e w' => e = .returned (.tuple #[.string ((str s).extract 0 i), .string ((str s).extract q s.length), .bool true]) ∧ Below w.heap.size w w' := ⟨_, rfl⟩
  rw [← hZ]
  have HZ := Lib.hid hZ
  clear hZ
  have IX := fun w => Tryz.stringslite_Index_one (str s) 44 w
  rw [str_toList, h] at IX
  have IX := Lib.hid IX
  have hsz := str_size s
  have hle1 : i ≤ s.length := by omega
  have hle2 : q ≤ s.length := by omega
  have HQ := Lib.hid (show q = i + 1 ∧ s.length ≤ 9223372036854775807 by unfold maxLen at h63; omega)
  have h1 : (str [44]).size = 1 := rfl
  clear h h63 hi hq
  go_enter Tryz.func120, Tryz.ntmps120
  go_wp2_with fail
  refine (IX.out _).mono ?_
  rintro e w1 ⟨rfl, rfl⟩
  go_wp2_with fail
  refine gs_start (S := (fun _ => True)) (by kernel_rfl) ?_
  refine gs_take (i := 0) (d := (some 13)) (v := ?_) rfl rfl (by kernel_rfl) (fun _ _ _ h => h) (by rfl) trivial (fun w' hb' => ?_) ?_
  rotate_left
  · have z1 := hle1; have z2 := hle2; have e1 : IntKind.i64.wrap ((i : Int) + 1) = (q : Int) := (by rw [IntKind.wrap_i64]; have := HQ.out; omega); (try go_simp); (try with_reducible rfl)
  try simp only [Act.put, List.setIfInBounds_toArray, List.set_cons_zero, List.set_cons_succ]
  refine gs_take (i := 1) (d := (some 14)) (v := ?_) rfl rfl (by kernel_rfl) (fun _ _ _ h => h) (by rfl) trivial (fun w' hb' => ?_) ?_
  rotate_left
  · have z1 := hle1; have z2 := hle2; have e1 : IntKind.i64.wrap ((i : Int) + 1) = (q : Int) := (by rw [IntKind.wrap_i64]; have := HQ.out; omega); (try go_simp); (try with_reducible rfl)
  try simp only [Act.put, List.setIfInBounds_toArray, List.set_cons_zero, List.set_cons_succ]
  refine gs_take (i := 2) (d := (some 15)) (v := ?_) rfl rfl (by kernel_rfl) (fun _ _ _ h => h) (by rfl) trivial (fun w' hb' => ?_) ?_
  rotate_left
  · have z1 := hle1; have z2 := hle2; have e1 : IntKind.i64.wrap ((i : Int) + 1) = (q : Int) := (by rw [IntKind.wrap_i64]; have := HQ.out; omega); (try go_simp); (try with_reducible rfl)
  try simp only [Act.put, List.setIfInBounds_toArray, List.set_cons_zero, List.set_cons_succ]
  refine gs_take (i := 3) (d := (some 16)) (v := ?_) rfl rfl (by kernel_rfl) (fun _ _ _ h => h) (by rfl) trivial (fun w' hb' => ?_) ?_
  rotate_left
  · have z1 := hle1; have z2 := hle2; have e1 : IntKind.i64.wrap ((i : Int) + 1) = (q : Int) := (by rw [IntKind.wrap_i64]; have := HQ.out; omega); (try go_simp); (try with_reducible rfl)
  try simp only [Act.put, List.setIfInBounds_toArray, List.set_cons_zero, List.set_cons_succ]
  refine gs_take (i := 4) (d := (some 17)) (v := ?_) rfl rfl (by kernel_rfl) (fun _ _ _ h => h) (by rfl) trivial (fun w' hb' => ?_) ?_
  rotate_left
  · have z1 := hle1; have z2 := hle2; have e1 : IntKind.i64.wrap ((i : Int) + 1) = (q : Int) := (by rw [IntKind.wrap_i64]; have := HQ.out; omega); (try go_simp); (try with_reducible rfl)
  try simp only [Act.put, List.setIfInBounds_toArray, List.set_cons_zero, List.set_cons_succ]
  refine gs_take (i := 5) (d := (some 18)) (v := ?_) rfl rfl (by kernel_rfl) (fun _ _ _ h => h) (by rfl) trivial (fun w' hb' => ?_) ?_
  rotate_left
  · have z1 := hle1; have z2 := hle2; have e1 : IntKind.i64.wrap ((i : Int) + 1) = (q : Int) := (by rw [IntKind.wrap_i64]; have := HQ.out; omega); (try go_simp); (try with_reducible rfl)
  try simp only [Act.put, List.setIfInBounds_toArray, List.set_cons_zero, List.set_cons_succ]
  refine gs_take (i := 6) (d := (some 19)) (v := ?_) rfl rfl (by kernel_rfl) (fun _ _ _ h => h) (by rfl) trivial (fun w' hb' => ?_) ?_
  rotate_left
  · have z1 := hle1; have z2 := hle2; have e1 : IntKind.i64.wrap ((i : Int) + 1) = (q : Int) := (by rw [IntKind.wrap_i64]; have := HQ.out; omega); (try go_simp); (try with_reducible rfl)
  try simp only [Act.put, List.setIfInBounds_toArray, List.set_cons_zero, List.set_cons_succ]
  refine gs_take (i := 7) (d := (some 20)) (v := ?_) rfl rfl (by kernel_rfl) (fun _ _ _ h => h) (by rfl) trivial (fun w' hb' => ?_) ?_
  rotate_left
  · have z1 := hle1; have z2 := hle2; have e1 : IntKind.i64.wrap ((i : Int) + 1) = (q : Int) := (by rw [IntKind.wrap_i64]; have := HQ.out; omega); (try go_simp); (try with_reducible rfl)
  try simp only [Act.put, List.setIfInBounds_toArray, List.set_cons_zero, List.set_cons_succ]
  refine gs_take (i := 8) (d := (some 21)) (v := ?_) rfl rfl (by kernel_rfl) (fun _ _ _ h => h) (by rfl) trivial (fun w' hb' => ?_) ?_
  rotate_left
  · have z1 := hle1; have z2 := hle2; have e1 : IntKind.i64.wrap ((i : Int) + 1) = (q : Int) := (by rw [IntKind.wrap_i64]; have := HQ.out; omega); (try go_simp); (try with_reducible rfl)
  try simp only [Act.put, List.setIfInBounds_toArray, List.set_cons_zero, List.set_cons_succ]
  refine gs_take (i := 9) (d := (some 4)) (v := ?_) rfl rfl (by kernel_rfl) (fun _ _ _ h => h) (by rfl) trivial (fun w' hb' => ?_) ?_
  rotate_left
  · have z1 := hle1; have z2 := hle2; have e1 : IntKind.i64.wrap ((i : Int) + 1) = (q : Int) := (by rw [IntKind.wrap_i64]; have := HQ.out; omega); (try go_simp); (try with_reducible rfl)
  try simp only [Act.put, List.setIfInBounds_toArray, List.set_cons_zero, List.set_cons_succ]
  refine gs_take (i := 10) (d := (some 5)) (v := ?_) rfl rfl (by kernel_rfl) (fun _ _ _ h => h) (by rfl) trivial (fun w' hb' => ?_) ?_
  rotate_left
  · have z1 := hle1; have z2 := hle2; have e1 : IntKind.i64.wrap ((i : Int) + 1) = (q : Int) := (by rw [IntKind.wrap_i64]; have := HQ.out; omega); (try go_simp); (try with_reducible rfl)
  try simp only [Act.put, List.setIfInBounds_toArray, List.set_cons_zero, List.set_cons_succ]
  refine gs_take (i := 11) (d := (some 6)) (v := ?_) rfl rfl (by kernel_rfl) (fun _ _ _ h => h) (by rfl) trivial (fun w' hb' => ?_) ?_
  rotate_left
  · have z1 := hle1; have z2 := hle2; have e1 : IntKind.i64.wrap ((i : Int) + 1) = (q : Int) := (by rw [IntKind.wrap_i64]; have := HQ.out; omega); (try go_simp); (try with_reducible rfl)
  try simp only [Act.put, List.setIfInBounds_toArray, List.set_cons_zero, List.set_cons_succ]
  refine gs_done (by kernel_rfl) ?_
  go_wp2_with fail
  show Z _ _
  rw [HZ.out]
  exact ⟨rfl, (Below.refl _ _).drew⟩
end Go.Proofs.YtoagdmglchccnaaGreatDoor
