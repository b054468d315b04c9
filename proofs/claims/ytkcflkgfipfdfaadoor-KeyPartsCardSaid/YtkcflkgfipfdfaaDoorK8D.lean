/- Keys: a text with its last byte turned. Written by wip/tools/gen8d.py. -/
import Derived.Test.YtkcflkgfipfdfaaDoorK8C
import Derived.Test.YtkcflkgfipfdfaaDoorReg
namespace Go.Proofs.YtkcflkgfipfdfaaDoor
open Go Go.RowKit
set_option linter.unusedVariables false
set_option linter.unusedSimpArgs false
theorem rd_block {w : World} {g : Nat} {l : List UInt8} {t : TypeId} (h : w.heap[g]? = some (.cells (l.map bv).toArray t (0, 0))) (hm : l.length ≤ maxLen) : Rd w (.slice (some ⟨g, 0, none⟩) l.length l.length) l := by
  refine ⟨some ⟨g, 0, none⟩, l.length, rfl, Nat.le_refl _, hm, by simp, ?_⟩
  intro _
  refine ⟨g, 0, rfl, lt_of_block h, ?_⟩
  intro i hi
  rw [Nat.zero_add, block_cell h]
  simp [hi]
theorem conv_one {w : World} {g : Nat} {u : UInt8} (h : w.heap[g]? = some (.cells #[.int .u8 (u.toNat : Int)] 5 (0, 0))) : (convert 44 9 (.slice (some ⟨g, 0, none⟩) 1 1)).run Tryd.prog w = .ok (.string (str [u])) w :=
  conv_rd (P := Tryd.prog) (rd_block (l := [u]) h (by simp [maxLen])) 44 5 9 Tryd.underlying44 Tryd.underlying5 Tryd.underlying9
set_option maxRecDepth 100000 in
theorem shifted_at (l p : List UInt8) (m n : Nat) (u : UInt8) (d : Int) (hp : n + 1 ≤ maxLen) (hz : (str l).size = n + 1) (hne : (str l).toList.isEmpty = false) (hex : (str l).extract 0 n = str p) (hpz : (str p).size = n)
    (hcc : ∀ h : n < (str l).size, ((str l)[n]'h).toNat = m) (hm : m < 256) (hd : -1 ≤ d) (hd2 : d ≤ 1) (e1 : IntKind.i64.wrap ((m : Int) + d) = (m : Int) + d) (e2 : IntKind.u8.wrap ((m : Int) + d) = (u.toNat : Int)) : Ret 44 #[.string (str l), .int .i64 d] (.string (str (p ++ [u]))) := by
  intro w tab
  unfold maxLen at hp
  have c1 : (n : Int) ≤ (n : Int) + 1 := by omega
  have c2 : (n : Int) < (n : Int) + 1 := by omega
  have e0 : IntKind.i64.wrap (m : Int) = (m : Int) := by rw [IntKind.wrap_i64]; omega
  have hu : (str [u]).size = 1 := str_size _
  have c3 : ¬ 9223372036854775807 < n + 1 := by omega
  go_enter Tryd.func44, Tryd.ntmps44
  go_wp2_with fail
  refine g_start (by kernel_rfl) ?_
  refine g_take (i := 0) (d := (some 11)) (v := ?_) rfl rfl (by kernel_rfl) (fun _ _ _ h => h) (by rfl) (fun w' hb' => ?_) ?_
  rotate_left
  · (try go_simp); (try with_reducible rfl)
  try simp only [Act.put, List.setIfInBounds_toArray, List.set_cons_zero, List.set_cons_succ]
  refine g_take (i := 1) (d := (some 12)) (v := ?_) rfl rfl (by kernel_rfl) (fun _ _ _ h => h) (by rfl) (fun w' hb' => ?_) ?_
  rotate_left
  · (try go_simp); (try with_reducible rfl)
  try simp only [Act.put, List.setIfInBounds_toArray, List.set_cons_zero, List.set_cons_succ]
  refine g_take (i := 2) (d := (some 13)) (v := ?_) rfl rfl (by kernel_rfl) (fun _ _ _ h => h) (by rfl) (fun w' hb' => ?_) ?_
  rotate_left
  · (try go_simp); (try with_reducible rfl)
  try simp only [Act.put, List.setIfInBounds_toArray, List.set_cons_zero, List.set_cons_succ]
  refine g_take (i := 3) (d := (some 14)) (v := ?_) rfl rfl (by kernel_rfl) (fun _ _ _ h => h) (by rfl) (fun w' hb' => ?_) ?_
  rotate_left
  · (try go_simp); (try with_reducible rfl)
  try simp only [Act.put, List.setIfInBounds_toArray, List.set_cons_zero, List.set_cons_succ]
  refine g_take (i := 4) (d := (some 15)) (v := ?_) rfl rfl (by kernel_rfl) (fun _ _ _ h => h) (by rfl) (fun w' hb' => ?_) ?_
  rotate_left
  · (try go_simp); (try with_reducible rfl)
  try simp only [Act.put, List.setIfInBounds_toArray, List.set_cons_zero, List.set_cons_succ]
  refine g_take (i := 5) (d := (some 16)) (v := ?_) rfl rfl (by kernel_rfl) (fun _ _ _ h => h) (by rfl) (fun w' hb' => ?_) ?_
  rotate_left
  · (try go_simp); (try with_reducible rfl)
  try simp only [Act.put, List.setIfInBounds_toArray, List.set_cons_zero, List.set_cons_succ]
  refine g_take (i := 6) (d := (some 17)) (v := ?_) rfl rfl (by kernel_rfl) (fun _ _ _ h => h) (by rfl) (fun w' hb' => ?_) ?_
  rotate_left
  · (try go_simp); (try with_reducible rfl)
  try simp only [Act.put, List.setIfInBounds_toArray, List.set_cons_zero, List.set_cons_succ]
  refine g_take (i := 7) (d := (some 18)) (v := ?_) rfl rfl (by kernel_rfl) (fun _ _ _ h => h) (by rfl) (fun w' hb' => ?_) ?_
  rotate_left
  · (try go_simp); (try with_reducible rfl)
  try simp only [Act.put, List.setIfInBounds_toArray, List.set_cons_zero, List.set_cons_succ]
  refine g_take (i := 8) (d := (some 19)) (v := ?_) rfl rfl (by kernel_rfl) (fun _ _ _ h => h) (by rfl) (fun w' hb' => ?_) ?_
  rotate_left
  · (try go_simp); (try with_reducible rfl)
  try simp only [Act.put, List.setIfInBounds_toArray, List.set_cons_zero, List.set_cons_succ]
  refine g_take (i := 9) (d := (some 20)) (v := ?_) rfl rfl (by kernel_rfl) (fun _ _ _ h => h) (by rfl) (fun w' hb' => ?_) ?_
  rotate_left
  · (try go_simp); (try with_reducible rfl)
  try simp only [Act.put, List.setIfInBounds_toArray, List.set_cons_zero, List.set_cons_succ]
  refine g_run (i := 10) rfl (by kernel_rfl) (by rfl) (fun K hK => ?_)
  go_simp
  have hb0 := heap_alloc_new w (.cells #[.int .u8 (u.toNat : Int)] 5)
  have gg : Below w.heap.size w (w.alloc (.cells #[.int .u8 (u.toNat : Int)] 5)) := (Below.refl _ _).alloc (Nat.le_refl _) _
  have gd : Below w.drew.heap.size w.drew (w.alloc (.cells #[.int .u8 (u.toNat : Int)] 5)).drew := ⟨gg.os, gg.tape, gg.output, gg.size, gg.block⟩
  refine hK _ _ ⟨gd, ?_⟩
  clear hK K
  try simp only [Act.put, List.setIfInBounds_toArray, List.set_cons_zero, List.set_cons_succ]
  refine g_take (i := 11) (d := (some 22)) (v := ?_) rfl rfl (by kernel_rfl) (fun _ _ _ h => h) (by rfl) (fun w' hb' => ?_) ?_
  rotate_left
  · have k1 := conv_one ((hb'.block _ (lt_of_block hb0)).trans hb0); (try go_simp); (try with_reducible rfl)
  try simp only [Act.put, List.setIfInBounds_toArray, List.set_cons_zero, List.set_cons_succ]
  refine g_take (i := 12) (d := (some 23)) (v := ?_) rfl rfl (by kernel_rfl) (fun _ _ _ h => h) (by rfl) (fun w' hb' => ?_) ?_
  rotate_left
  · (try go_simp); (try with_reducible rfl)
  try simp only [Act.put, List.setIfInBounds_toArray, List.set_cons_zero, List.set_cons_succ]
  refine g_take (i := 13) (d := (some 4)) (v := ?_) rfl rfl (by kernel_rfl) (fun _ _ _ h => h) (by rfl) (fun w' hb' => ?_) ?_
  rotate_left
  · (try go_simp); (try with_reducible rfl)
  try simp only [Act.put, List.setIfInBounds_toArray, List.set_cons_zero, List.set_cons_succ]
  refine g_done (by kernel_rfl) ?_
  go_wp2_with fail
  go_ret
  exact ⟨ret_str (str_append _ _), below_drewN (k := 1) gg⟩
set_option maxRecDepth 100000 in
theorem refEnd_at (l p : List UInt8) (m n : Nat) (u : UInt8) (hp : n + 1 ≤ maxLen) (hz : (str l).size = n + 1) (hne : (str l).toList.isEmpty = false) (hex : (str l).extract 0 n = str p) (hpz : (str p).size = n)
    (hcc : ∀ h : n < (str l).size, ((str l)[n]'h).toNat = m) (hm : m < 256) (e2 : IntKind.u8.wrap ((m : Int) + 1) = (u.toNat : Int)) : Ret 21 #[.string (str l)] (.string (str (p ++ [u]))) := by
  intro w tab
  unfold maxLen at hp
  have c1 : (n : Int) ≤ (n : Int) + 1 := by omega
  have c2 : (n : Int) < (n : Int) + 1 := by omega
  have e0 : IntKind.i64.wrap (m : Int) = (m : Int) := by rw [IntKind.wrap_i64]; omega
  have hu : (str [u]).size = 1 := str_size _
  have c3 : ¬ 9223372036854775807 < n + 1 := by omega
  go_enter Tryd.func21, Tryd.ntmps21
  go_wp2_with fail
  refine g_start (by kernel_rfl) ?_
  refine g_take (i := 0) (d := (some 9)) (v := ?_) rfl rfl (by kernel_rfl) (fun _ _ _ h => h) (by rfl) (fun w' hb' => ?_) ?_
  rotate_left
  · (try go_simp); (try with_reducible rfl)
  try simp only [Act.put, List.setIfInBounds_toArray, List.set_cons_zero, List.set_cons_succ]
  refine g_take (i := 1) (d := (some 10)) (v := ?_) rfl rfl (by kernel_rfl) (fun _ _ _ h => h) (by rfl) (fun w' hb' => ?_) ?_
  rotate_left
  · (try go_simp); (try with_reducible rfl)
  try simp only [Act.put, List.setIfInBounds_toArray, List.set_cons_zero, List.set_cons_succ]
  refine g_take (i := 2) (d := (some 11)) (v := ?_) rfl rfl (by kernel_rfl) (fun _ _ _ h => h) (by rfl) (fun w' hb' => ?_) ?_
  rotate_left
  · (try go_simp); (try with_reducible rfl)
  try simp only [Act.put, List.setIfInBounds_toArray, List.set_cons_zero, List.set_cons_succ]
  refine g_take (i := 3) (d := (some 12)) (v := ?_) rfl rfl (by kernel_rfl) (fun _ _ _ h => h) (by rfl) (fun w' hb' => ?_) ?_
  rotate_left
  · (try go_simp); (try with_reducible rfl)
  try simp only [Act.put, List.setIfInBounds_toArray, List.set_cons_zero, List.set_cons_succ]
  refine g_take (i := 4) (d := (some 13)) (v := ?_) rfl rfl (by kernel_rfl) (fun _ _ _ h => h) (by rfl) (fun w' hb' => ?_) ?_
  rotate_left
  · (try go_simp); (try with_reducible rfl)
  try simp only [Act.put, List.setIfInBounds_toArray, List.set_cons_zero, List.set_cons_succ]
  refine g_take (i := 5) (d := (some 14)) (v := ?_) rfl rfl (by kernel_rfl) (fun _ _ _ h => h) (by rfl) (fun w' hb' => ?_) ?_
  rotate_left
  · (try go_simp); (try with_reducible rfl)
  try simp only [Act.put, List.setIfInBounds_toArray, List.set_cons_zero, List.set_cons_succ]
  refine g_take (i := 6) (d := (some 15)) (v := ?_) rfl rfl (by kernel_rfl) (fun _ _ _ h => h) (by rfl) (fun w' hb' => ?_) ?_
  rotate_left
  · (try go_simp); (try with_reducible rfl)
  try simp only [Act.put, List.setIfInBounds_toArray, List.set_cons_zero, List.set_cons_succ]
  refine g_run (i := 7) rfl (by kernel_rfl) (by rfl) (fun K hK => ?_)
  go_simp
  have hb0 := heap_alloc_new w (.cells #[.int .u8 (u.toNat : Int)] 5)
  have gg : Below w.heap.size w (w.alloc (.cells #[.int .u8 (u.toNat : Int)] 5)) := (Below.refl _ _).alloc (Nat.le_refl _) _
  have gd : Below w.drew.heap.size w.drew (w.alloc (.cells #[.int .u8 (u.toNat : Int)] 5)).drew := ⟨gg.os, gg.tape, gg.output, gg.size, gg.block⟩
  refine hK _ _ ⟨gd, ?_⟩
  clear hK K
  try simp only [Act.put, List.setIfInBounds_toArray, List.set_cons_zero, List.set_cons_succ]
  refine g_take (i := 8) (d := (some 17)) (v := ?_) rfl rfl (by kernel_rfl) (fun _ _ _ h => h) (by rfl) (fun w' hb' => ?_) ?_
  rotate_left
  · have k1 := conv_one ((hb'.block _ (lt_of_block hb0)).trans hb0); (try go_simp); (try with_reducible rfl)
  try simp only [Act.put, List.setIfInBounds_toArray, List.set_cons_zero, List.set_cons_succ]
  refine g_take (i := 9) (d := (some 18)) (v := ?_) rfl rfl (by kernel_rfl) (fun _ _ _ h => h) (by rfl) (fun w' hb' => ?_) ?_
  rotate_left
  · (try go_simp); (try with_reducible rfl)
  try simp only [Act.put, List.setIfInBounds_toArray, List.set_cons_zero, List.set_cons_succ]
  refine g_take (i := 10) (d := (some 2)) (v := ?_) rfl rfl (by kernel_rfl) (fun _ _ _ h => h) (by rfl) (fun w' hb' => ?_) ?_
  rotate_left
  · (try go_simp); (try with_reducible rfl)
  try simp only [Act.put, List.setIfInBounds_toArray, List.set_cons_zero, List.set_cons_succ]
  refine g_done (by kernel_rfl) ?_
  go_wp2_with fail
  go_ret
  exact ⟨ret_str (str_append _ _), below_drewN (k := 1) gg⟩
end Go.Proofs.YtkcflkgfipfdfaaDoor
