/- The document's reader of layer 1. Written by wip/tools/gen1i.py. -/
import Derived.Test.YtlafmalgioffkaaL01K
namespace Go.Proofs.Ytlafmalgioffkaa
open Go.RowKit
set_option linter.unusedVariables false
set_option linter.unusedSimpArgs false
theorem str_from (l : List UInt8) (i : Nat) (h : i ≤ l.length) : (str l).extract i (str l).size = str (l.drop i) := by
  rw [str_extract, str_size, List.take_of_length_le (by simp)]
theorem str_slice_op {op : Oper} {a : Act} {w : World} (T : TypeId) (s x : Operand) (ho : op.op = .slice T s (some x) none none) (l : List UInt8) (i : Nat) (hs : a.eval s = .string (str l)) (hx : a.eval x = .int .i64 (i : Int)) (h2 : i ≤ l.length) (z : List UInt8) (hz : l.drop i = z) (ht : Try.prog.underlying T = Try.prog.underlying 9) :
    (execOp a.eval op).run Try.prog w = .ok (.value (.string (str z))) w := by
  subst hz
  have hsz := str_size l
  have e := str_from l i h2
  rw [hsz] at e
  rw [Try.underlying9] at ht
  simp [execOp, ho, hs, hx, Instr.sliceAt, Instr.slice, run_underlying ht, Instr.sliceBounds, Instr.sliceBound, asIntOf, (by omega : (i : Int) ≤ (l.length : Int)), (by omega : (i : Int) ≤ max (l.length : Int) 0), h2, hsz, e, Result.andThen]
theorem str_index_op {op : Oper} {a : Act} {w : World} (T : TypeId) (s x : Operand) (ho : op.op = .index T s x) (l : List UInt8) (i : Nat) (hs : a.eval s = .string (str l)) (hx : a.eval x = .int .i64 (i : Int)) (h2 : i < l.length) (z : Value) (hz : bv (l.getD i 0) = z) (ht : Try.prog.underlying T = Try.prog.underlying 9) :
    (execOp a.eval op).run Try.prog w = .ok (.value z) w := by
  subst hz
  have hsz := str_size l
  have e : ∀ h, (str l)[i]'h = l.getD i 0 := fun h => str_byte l i h
  rw [Try.underlying9] at ht
  simp [execOp, ho, hs, hx, Instr.index, run_underlying ht, asIntOf, h2, hsz, e, bv, Result.andThen]
set_option maxRecDepth 100000 in
theorem tnum_done (B : Nat) (l : List UInt8) (at_ err : Nat) (most : Int) (he : ((err : Int) != 0) = true) (w : World) (h : TS w B l at_ err) :
    Calls Try.prog 33 #[.pointer (some ⟨B, 0, none⟩), .int .u64 most] w fun e w' => e = .returned (.int .u64 0) ∧ TS w' B l at_ err ∧ w.grownBy w' (some B) := by
  have h0 := h
  have q := h.1
  have hat := h.2.1
  have hle := h.2.2
  have hB := lt_of_block q
  obtain ⟨q0, q1, q2, qf⟩ := cells3 q
  go_enter Try.func33, Try.ntmps33
  go_wp2_with fail
  go_ret
  exact ⟨rfl, h0, grown_reflB⟩
set_option maxRecDepth 100000 in
theorem tnum_bad (B : Nat) (l : List UInt8) (at_ err : Nat) (most : Int) (hm : 0 ≤ most) (he : err = 0) (d : List UInt8) (hd : Hid (l.drop at_ = d)) (hdl : d.length ≤ 2000) (x n c : Nat) (hr : Hid (cutL d = (x, n, c))) (hc : ((c : Int) == 0) = false) (w : World) (h : TS w B l at_ err) :
    Calls Try.prog 33 #[.pointer (some ⟨B, 0, none⟩), .int .u64 most] w fun e w' => e = .returned (.int .u64 0) ∧ TS w' B l at_ c ∧ w.grownBy w' (some B) := by
  have h0 := h
  have q := h.1
  have hat := h.2.1
  have hle := h.2.2
  have hB := lt_of_block q
  obtain ⟨q0, q1, q2, qf⟩ := cells3 q
  subst he
  have hc2 : ((c : Int) != 0) = true := by simp at hc ⊢; omega
  go_enter Try.func33, Try.ntmps33
  go_wp2_with fail
  refine g_start (by kernel_rfl) ?_
  refine g_take (i := 0) (d := (some 14)) (v := ?_) rfl rfl (by kernel_rfl) (fun _ _ _ h => h) (by rfl) (fun w' hb' => ?_) ?_
  rotate_left
  · (try go_simp); (try with_reducible rfl)
  try simp only [Act.put, List.setIfInBounds_toArray, List.set_cons_zero, List.set_cons_succ]
  refine g_take (i := 1) (d := (some 15)) (v := ?_) rfl rfl (by kernel_rfl) (fun _ _ _ h => h) (by rfl) (fun w' hb' => ?_) ?_
  rotate_left
  · (try go_simp); (try with_reducible rfl)
  try simp only [Act.put, List.setIfInBounds_toArray, List.set_cons_zero, List.set_cons_succ]
  refine g_take (i := 2) (d := (some 16)) (v := ?_) rfl rfl (by kernel_rfl) (fun _ _ _ h => h) (by rfl) (fun w' hb' => ?_) ?_
  rotate_left
  · (try go_simp); (try with_reducible rfl)
  try simp only [Act.put, List.setIfInBounds_toArray, List.set_cons_zero, List.set_cons_succ]
  refine g_take (i := 3) (d := (some 17)) (v := ?_) rfl rfl (by kernel_rfl) (fun _ _ _ h => h) (by rfl) (fun w' hb' => ?_) ?_
  rotate_left
  · have hc := (cells3 ((hb'.block _ hB).trans q)).1; (try go_simp); (try with_reducible rfl)
  try simp only [Act.put, List.setIfInBounds_toArray, List.set_cons_zero, List.set_cons_succ]
  refine g_take (i := 4) (d := (some 18)) (v := ?_) rfl rfl (by kernel_rfl) (fun _ _ _ h => h) (by rfl) (fun w' hb' => ?_) ?_
  rotate_left
  · (try go_simp); (try with_reducible rfl)
  try simp only [Act.put, List.setIfInBounds_toArray, List.set_cons_zero, List.set_cons_succ]
  refine g_take (i := 5) (d := (some 19)) (v := ?_) rfl rfl (by kernel_rfl) (fun _ _ _ h => h) (by rfl) (fun w' hb' => ?_) ?_
  rotate_left
  · (try go_simp); (try with_reducible rfl)
  try simp only [Act.put, List.setIfInBounds_toArray, List.set_cons_zero, List.set_cons_succ]
  refine g_take (i := 6) (d := (some 20)) (v := ?_) rfl rfl (by kernel_rfl) (fun _ _ _ h => h) (by rfl) (fun w' hb' => ?_) ?_
  rotate_left
  · (try go_simp); (try with_reducible rfl)
  try simp only [Act.put, List.setIfInBounds_toArray, List.set_cons_zero, List.set_cons_succ]
  refine g_take (i := 7) (d := (some 21)) (v := ?_) rfl rfl (by kernel_rfl) (fun _ _ _ h => h) (by rfl) (fun w' hb' => ?_) ?_
  rotate_left
  · have hc := (cells3 ((hb'.block _ hB).trans q)).2.1; (try go_simp); (try with_reducible rfl)
  try simp only [Act.put, List.setIfInBounds_toArray, List.set_cons_zero, List.set_cons_succ]
  refine g_take (i := 8) (d := (some 22)) (v := ?_) rfl rfl (by kernel_rfl) (fun _ _ _ h => h) (by rfl) (fun w' hb' => ?_) ?_
  rotate_left
  · refine str_slice_op 9 (.tmp 17) (.tmp 21) ?_ l at_ ?_ ?_ hat d hd.out ?_ <;> rfl; (try go_simp); (try with_reducible rfl)
  try simp only [Act.put, List.setIfInBounds_toArray, List.set_cons_zero, List.set_cons_succ]
  refine g_run (i := 9) rfl (by kernel_rfl) (by rfl) (fun K hK => ?_)
  go_simp; refine (refCut_at d x n c hr (by unfold maxLen; omega) _).mono ?_; rintro e v ⟨rfl, rfl⟩; refine hK _ _ ⟨Below.refl _ _, ?_⟩; clear hK K
  try simp only [Act.put, List.setIfInBounds_toArray, List.set_cons_zero, List.set_cons_succ]
  refine g_take (i := 10) (d := (some 13)) (v := ?_) rfl rfl (by kernel_rfl) (fun _ _ _ h => h) (by rfl) (fun w' hb' => ?_) ?_
  rotate_left
  · (try go_simp); (try with_reducible rfl)
  try simp only [Act.put, List.setIfInBounds_toArray, List.set_cons_zero, List.set_cons_succ]
  refine g_take (i := 11) (d := (some 24)) (v := ?_) rfl rfl (by kernel_rfl) (fun _ _ _ h => h) (by rfl) (fun w' hb' => ?_) ?_
  rotate_left
  · (try go_simp); (try with_reducible rfl)
  try simp only [Act.put, List.setIfInBounds_toArray, List.set_cons_zero, List.set_cons_succ]
  refine g_take (i := 12) (d := (some 25)) (v := ?_) rfl rfl (by kernel_rfl) (fun _ _ _ h => h) (by rfl) (fun w' hb' => ?_) ?_
  rotate_left
  · (try go_simp); (try with_reducible rfl)
  try simp only [Act.put, List.setIfInBounds_toArray, List.set_cons_zero, List.set_cons_succ]
  refine g_take (i := 13) (d := (some 26)) (v := ?_) rfl rfl (by kernel_rfl) (fun _ _ _ h => h) (by rfl) (fun w' hb' => ?_) ?_
  rotate_left
  · (try go_simp); (try with_reducible rfl)
  try simp only [Act.put, List.setIfInBounds_toArray, List.set_cons_zero, List.set_cons_succ]
  refine g_take (i := 14) (d := (some 5)) (v := ?_) rfl rfl (by kernel_rfl) (fun _ _ _ h => h) (by rfl) (fun w' hb' => ?_) ?_
  rotate_left
  · (try go_simp); (try with_reducible rfl)
  try simp only [Act.put, List.setIfInBounds_toArray, List.set_cons_zero, List.set_cons_succ]
  refine g_take (i := 15) (d := (some 6)) (v := ?_) rfl rfl (by kernel_rfl) (fun _ _ _ h => h) (by rfl) (fun w' hb' => ?_) ?_
  rotate_left
  · (try go_simp); (try with_reducible rfl)
  try simp only [Act.put, List.setIfInBounds_toArray, List.set_cons_zero, List.set_cons_succ]
  refine g_take (i := 16) (d := (some 7)) (v := ?_) rfl rfl (by kernel_rfl) (fun _ _ _ h => h) (by rfl) (fun w' hb' => ?_) ?_
  rotate_left
  · (try go_simp); (try with_reducible rfl)
  try simp only [Act.put, List.setIfInBounds_toArray, List.set_cons_zero, List.set_cons_succ]
  refine g_done (by kernel_rfl) ?_
  go_wp2_with fail
  go_ret
  have p0 : (w.setCell ⟨B, 2, none⟩ (.int .i64 (c : Int))).heap[B]? = some (.cells #[.string (str l), .int .i64 (at_ : Int), .int .i64 (c : Int)] 65 (0, 0)) := by simpa using set_at (i := 2) (u := .int .i64 (c : Int)) q
  exact ⟨rfl, ⟨p0, hat, hle⟩, grown_drewB (grown_setB (B := B) (i := 2) (u := .int .i64 (c : Int)) (grown_reflB))⟩
set_option maxRecDepth 100000 in
theorem tnum_over (B : Nat) (l : List UInt8) (at_ err : Nat) (most : Int) (he : err = 0) (d : List UInt8) (hd : Hid (l.drop at_ = d)) (hdl : d.length ≤ 2000) (x n : Nat) (hr : Hid (cutL d = (x, n, 0))) (hx : most < (x : Int)) (w : World) (h : TS w B l at_ err) :
    Calls Try.prog 33 #[.pointer (some ⟨B, 0, none⟩), .int .u64 most] w fun e w' => e = .returned (.int .u64 0) ∧ TS w' B l at_ 8 ∧ w.grownBy w' (some B) := by
  have h0 := h
  have q := h.1
  have hat := h.2.1
  have hle := h.2.2
  have hB := lt_of_block q
  obtain ⟨q0, q1, q2, qf⟩ := cells3 q
  subst he
  go_enter Try.func33, Try.ntmps33
  go_wp2_with fail
  refine g_start (by kernel_rfl) ?_
  refine g_take (i := 0) (d := (some 14)) (v := ?_) rfl rfl (by kernel_rfl) (fun _ _ _ h => h) (by rfl) (fun w' hb' => ?_) ?_
  rotate_left
  · (try go_simp); (try with_reducible rfl)
  try simp only [Act.put, List.setIfInBounds_toArray, List.set_cons_zero, List.set_cons_succ]
  refine g_take (i := 1) (d := (some 15)) (v := ?_) rfl rfl (by kernel_rfl) (fun _ _ _ h => h) (by rfl) (fun w' hb' => ?_) ?_
  rotate_left
  · (try go_simp); (try with_reducible rfl)
  try simp only [Act.put, List.setIfInBounds_toArray, List.set_cons_zero, List.set_cons_succ]
  refine g_take (i := 2) (d := (some 16)) (v := ?_) rfl rfl (by kernel_rfl) (fun _ _ _ h => h) (by rfl) (fun w' hb' => ?_) ?_
  rotate_left
  · (try go_simp); (try with_reducible rfl)
  try simp only [Act.put, List.setIfInBounds_toArray, List.set_cons_zero, List.set_cons_succ]
  refine g_take (i := 3) (d := (some 17)) (v := ?_) rfl rfl (by kernel_rfl) (fun _ _ _ h => h) (by rfl) (fun w' hb' => ?_) ?_
  rotate_left
  · have hc := (cells3 ((hb'.block _ hB).trans q)).1; (try go_simp); (try with_reducible rfl)
  try simp only [Act.put, List.setIfInBounds_toArray, List.set_cons_zero, List.set_cons_succ]
  refine g_take (i := 4) (d := (some 18)) (v := ?_) rfl rfl (by kernel_rfl) (fun _ _ _ h => h) (by rfl) (fun w' hb' => ?_) ?_
  rotate_left
  · (try go_simp); (try with_reducible rfl)
  try simp only [Act.put, List.setIfInBounds_toArray, List.set_cons_zero, List.set_cons_succ]
  refine g_take (i := 5) (d := (some 19)) (v := ?_) rfl rfl (by kernel_rfl) (fun _ _ _ h => h) (by rfl) (fun w' hb' => ?_) ?_
  rotate_left
  · (try go_simp); (try with_reducible rfl)
  try simp only [Act.put, List.setIfInBounds_toArray, List.set_cons_zero, List.set_cons_succ]
  refine g_take (i := 6) (d := (some 20)) (v := ?_) rfl rfl (by kernel_rfl) (fun _ _ _ h => h) (by rfl) (fun w' hb' => ?_) ?_
  rotate_left
  · (try go_simp); (try with_reducible rfl)
  try simp only [Act.put, List.setIfInBounds_toArray, List.set_cons_zero, List.set_cons_succ]
  refine g_take (i := 7) (d := (some 21)) (v := ?_) rfl rfl (by kernel_rfl) (fun _ _ _ h => h) (by rfl) (fun w' hb' => ?_) ?_
  rotate_left
  · have hc := (cells3 ((hb'.block _ hB).trans q)).2.1; (try go_simp); (try with_reducible rfl)
  try simp only [Act.put, List.setIfInBounds_toArray, List.set_cons_zero, List.set_cons_succ]
  refine g_take (i := 8) (d := (some 22)) (v := ?_) rfl rfl (by kernel_rfl) (fun _ _ _ h => h) (by rfl) (fun w' hb' => ?_) ?_
  rotate_left
  · refine str_slice_op 9 (.tmp 17) (.tmp 21) ?_ l at_ ?_ ?_ hat d hd.out ?_ <;> rfl; (try go_simp); (try with_reducible rfl)
  try simp only [Act.put, List.setIfInBounds_toArray, List.set_cons_zero, List.set_cons_succ]
  refine g_run (i := 9) rfl (by kernel_rfl) (by rfl) (fun K hK => ?_)
  go_simp; refine (refCut_at d x n 0 hr (by unfold maxLen; omega) _).mono ?_; rintro e v ⟨rfl, rfl⟩; refine hK _ _ ⟨Below.refl _ _, ?_⟩; clear hK K
  try simp only [Act.put, List.setIfInBounds_toArray, List.set_cons_zero, List.set_cons_succ]
  refine g_take (i := 10) (d := (some 13)) (v := ?_) rfl rfl (by kernel_rfl) (fun _ _ _ h => h) (by rfl) (fun w' hb' => ?_) ?_
  rotate_left
  · (try go_simp); (try with_reducible rfl)
  try simp only [Act.put, List.setIfInBounds_toArray, List.set_cons_zero, List.set_cons_succ]
  refine g_take (i := 11) (d := (some 24)) (v := ?_) rfl rfl (by kernel_rfl) (fun _ _ _ h => h) (by rfl) (fun w' hb' => ?_) ?_
  rotate_left
  · (try go_simp); (try with_reducible rfl)
  try simp only [Act.put, List.setIfInBounds_toArray, List.set_cons_zero, List.set_cons_succ]
  refine g_take (i := 12) (d := (some 25)) (v := ?_) rfl rfl (by kernel_rfl) (fun _ _ _ h => h) (by rfl) (fun w' hb' => ?_) ?_
  rotate_left
  · (try go_simp); (try with_reducible rfl)
  try simp only [Act.put, List.setIfInBounds_toArray, List.set_cons_zero, List.set_cons_succ]
  refine g_take (i := 13) (d := (some 26)) (v := ?_) rfl rfl (by kernel_rfl) (fun _ _ _ h => h) (by rfl) (fun w' hb' => ?_) ?_
  rotate_left
  · (try go_simp); (try with_reducible rfl)
  try simp only [Act.put, List.setIfInBounds_toArray, List.set_cons_zero, List.set_cons_succ]
  refine g_take (i := 14) (d := (some 5)) (v := ?_) rfl rfl (by kernel_rfl) (fun _ _ _ h => h) (by rfl) (fun w' hb' => ?_) ?_
  rotate_left
  · (try go_simp); (try with_reducible rfl)
  try simp only [Act.put, List.setIfInBounds_toArray, List.set_cons_zero, List.set_cons_succ]
  refine g_take (i := 15) (d := (some 6)) (v := ?_) rfl rfl (by kernel_rfl) (fun _ _ _ h => h) (by rfl) (fun w' hb' => ?_) ?_
  rotate_left
  · (try go_simp); (try with_reducible rfl)
  try simp only [Act.put, List.setIfInBounds_toArray, List.set_cons_zero, List.set_cons_succ]
  refine g_take (i := 16) (d := (some 7)) (v := ?_) rfl rfl (by kernel_rfl) (fun _ _ _ h => h) (by rfl) (fun w' hb' => ?_) ?_
  rotate_left
  · (try go_simp); (try with_reducible rfl)
  try simp only [Act.put, List.setIfInBounds_toArray, List.set_cons_zero, List.set_cons_succ]
  refine g_done (by kernel_rfl) ?_
  go_wp2_with fail
  go_ret
  have p0 : (w.setCell ⟨B, 2, none⟩ (.int .i64 8)).heap[B]? = some (.cells #[.string (str l), .int .i64 (at_ : Int), .int .i64 8] 65 (0, 0)) := by simpa using set_at (i := 2) (u := .int .i64 8) q
  exact ⟨rfl, ⟨p0, hat, hle⟩, grown_drewB (grown_setB (B := B) (i := 2) (u := .int .i64 8) (grown_reflB))⟩
set_option maxRecDepth 100000 in
theorem tnum_ok (B : Nat) (l : List UInt8) (at_ err : Nat) (most : Int) (he : err = 0) (d : List UInt8) (hd : Hid (l.drop at_ = d)) (hdl : d.length ≤ 2000) (x n : Nat) (hr : Hid (cutL d = (x, n, 0))) (hx : ¬ most < (x : Int)) (hn : at_ + n ≤ l.length) (w : World) (h : TS w B l at_ err) :
    Calls Try.prog 33 #[.pointer (some ⟨B, 0, none⟩), .int .u64 most] w fun e w' => e = .returned (.int .u64 (x : Int)) ∧ TS w' B l (at_ + n) 0 ∧ w.grownBy w' (some B) := by
  have h0 := h
  have q := h.1
  have hat := h.2.1
  have hle := h.2.2
  have hB := lt_of_block q
  obtain ⟨q0, q1, q2, qf⟩ := cells3 q
  subst he
  go_enter Try.func33, Try.ntmps33
  go_wp2_with fail
  refine g_start (by kernel_rfl) ?_
  refine g_take (i := 0) (d := (some 14)) (v := ?_) rfl rfl (by kernel_rfl) (fun _ _ _ h => h) (by rfl) (fun w' hb' => ?_) ?_
  rotate_left
  · (try go_simp); (try with_reducible rfl)
  try simp only [Act.put, List.setIfInBounds_toArray, List.set_cons_zero, List.set_cons_succ]
  refine g_take (i := 1) (d := (some 15)) (v := ?_) rfl rfl (by kernel_rfl) (fun _ _ _ h => h) (by rfl) (fun w' hb' => ?_) ?_
  rotate_left
  · (try go_simp); (try with_reducible rfl)
  try simp only [Act.put, List.setIfInBounds_toArray, List.set_cons_zero, List.set_cons_succ]
  refine g_take (i := 2) (d := (some 16)) (v := ?_) rfl rfl (by kernel_rfl) (fun _ _ _ h => h) (by rfl) (fun w' hb' => ?_) ?_
  rotate_left
  · (try go_simp); (try with_reducible rfl)
  try simp only [Act.put, List.setIfInBounds_toArray, List.set_cons_zero, List.set_cons_succ]
  refine g_take (i := 3) (d := (some 17)) (v := ?_) rfl rfl (by kernel_rfl) (fun _ _ _ h => h) (by rfl) (fun w' hb' => ?_) ?_
  rotate_left
  · have hc := (cells3 ((hb'.block _ hB).trans q)).1; (try go_simp); (try with_reducible rfl)
  try simp only [Act.put, List.setIfInBounds_toArray, List.set_cons_zero, List.set_cons_succ]
  refine g_take (i := 4) (d := (some 18)) (v := ?_) rfl rfl (by kernel_rfl) (fun _ _ _ h => h) (by rfl) (fun w' hb' => ?_) ?_
  rotate_left
  · (try go_simp); (try with_reducible rfl)
  try simp only [Act.put, List.setIfInBounds_toArray, List.set_cons_zero, List.set_cons_succ]
  refine g_take (i := 5) (d := (some 19)) (v := ?_) rfl rfl (by kernel_rfl) (fun _ _ _ h => h) (by rfl) (fun w' hb' => ?_) ?_
  rotate_left
  · (try go_simp); (try with_reducible rfl)
  try simp only [Act.put, List.setIfInBounds_toArray, List.set_cons_zero, List.set_cons_succ]
  refine g_take (i := 6) (d := (some 20)) (v := ?_) rfl rfl (by kernel_rfl) (fun _ _ _ h => h) (by rfl) (fun w' hb' => ?_) ?_
  rotate_left
  · (try go_simp); (try with_reducible rfl)
  try simp only [Act.put, List.setIfInBounds_toArray, List.set_cons_zero, List.set_cons_succ]
  refine g_take (i := 7) (d := (some 21)) (v := ?_) rfl rfl (by kernel_rfl) (fun _ _ _ h => h) (by rfl) (fun w' hb' => ?_) ?_
  rotate_left
  · have hc := (cells3 ((hb'.block _ hB).trans q)).2.1; (try go_simp); (try with_reducible rfl)
  try simp only [Act.put, List.setIfInBounds_toArray, List.set_cons_zero, List.set_cons_succ]
  refine g_take (i := 8) (d := (some 22)) (v := ?_) rfl rfl (by kernel_rfl) (fun _ _ _ h => h) (by rfl) (fun w' hb' => ?_) ?_
  rotate_left
  · refine str_slice_op 9 (.tmp 17) (.tmp 21) ?_ l at_ ?_ ?_ hat d hd.out ?_ <;> rfl; (try go_simp); (try with_reducible rfl)
  try simp only [Act.put, List.setIfInBounds_toArray, List.set_cons_zero, List.set_cons_succ]
  refine g_run (i := 9) rfl (by kernel_rfl) (by rfl) (fun K hK => ?_)
  go_simp; refine (refCut_at d x n 0 hr (by unfold maxLen; omega) _).mono ?_; rintro e v ⟨rfl, rfl⟩; refine hK _ _ ⟨Below.refl _ _, ?_⟩; clear hK K
  try simp only [Act.put, List.setIfInBounds_toArray, List.set_cons_zero, List.set_cons_succ]
  refine g_take (i := 10) (d := (some 13)) (v := ?_) rfl rfl (by kernel_rfl) (fun _ _ _ h => h) (by rfl) (fun w' hb' => ?_) ?_
  rotate_left
  · (try go_simp); (try with_reducible rfl)
  try simp only [Act.put, List.setIfInBounds_toArray, List.set_cons_zero, List.set_cons_succ]
  refine g_take (i := 11) (d := (some 24)) (v := ?_) rfl rfl (by kernel_rfl) (fun _ _ _ h => h) (by rfl) (fun w' hb' => ?_) ?_
  rotate_left
  · (try go_simp); (try with_reducible rfl)
  try simp only [Act.put, List.setIfInBounds_toArray, List.set_cons_zero, List.set_cons_succ]
  refine g_take (i := 12) (d := (some 25)) (v := ?_) rfl rfl (by kernel_rfl) (fun _ _ _ h => h) (by rfl) (fun w' hb' => ?_) ?_
  rotate_left
  · (try go_simp); (try with_reducible rfl)
  try simp only [Act.put, List.setIfInBounds_toArray, List.set_cons_zero, List.set_cons_succ]
  refine g_take (i := 13) (d := (some 26)) (v := ?_) rfl rfl (by kernel_rfl) (fun _ _ _ h => h) (by rfl) (fun w' hb' => ?_) ?_
  rotate_left
  · (try go_simp); (try with_reducible rfl)
  try simp only [Act.put, List.setIfInBounds_toArray, List.set_cons_zero, List.set_cons_succ]
  refine g_take (i := 14) (d := (some 5)) (v := ?_) rfl rfl (by kernel_rfl) (fun _ _ _ h => h) (by rfl) (fun w' hb' => ?_) ?_
  rotate_left
  · (try go_simp); (try with_reducible rfl)
  try simp only [Act.put, List.setIfInBounds_toArray, List.set_cons_zero, List.set_cons_succ]
  refine g_take (i := 15) (d := (some 6)) (v := ?_) rfl rfl (by kernel_rfl) (fun _ _ _ h => h) (by rfl) (fun w' hb' => ?_) ?_
  rotate_left
  · (try go_simp); (try with_reducible rfl)
  try simp only [Act.put, List.setIfInBounds_toArray, List.set_cons_zero, List.set_cons_succ]
  refine g_take (i := 16) (d := (some 7)) (v := ?_) rfl rfl (by kernel_rfl) (fun _ _ _ h => h) (by rfl) (fun w' hb' => ?_) ?_
  rotate_left
  · (try go_simp); (try with_reducible rfl)
  try simp only [Act.put, List.setIfInBounds_toArray, List.set_cons_zero, List.set_cons_succ]
  refine g_done (by kernel_rfl) ?_
  go_wp2_with fail
  go_ret
  have p0 : (w.setCell ⟨B, 1, none⟩ (.int .i64 ((at_ : Int) + (n : Int)))).heap[B]? = some (.cells #[.string (str l), .int .i64 ((at_ : Int) + (n : Int)), .int .i64 ((0 : Nat) : Int)] 65 (0, 0)) := by simpa using set_at (i := 1) (u := .int .i64 ((at_ : Int) + (n : Int))) q
  exact ⟨rfl, ⟨p0, hn, hle⟩, grown_drewB (grown_setB (B := B) (i := 1) (u := .int .i64 ((at_ : Int) + (n : Int))) (grown_reflB))⟩
end Go.Proofs.Ytlafmalgioffkaa
