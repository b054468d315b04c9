/- Stores: must; the deferred closures of Get, Take and Undo. Written by wip/tools/gen13e.py. -/
import Derived.Test.YtbdfcgffkonbiaaDoorQST25
import Derived.Test.YtbdfcgffkonbiaaDoorQST33
namespace Go.Proofs.YtbdfcgffkonbiaaDoor
open Go Go.RowKit
set_option linter.unusedVariables false
set_option linter.unusedSimpArgs false
theorem and_keep {a b : Prop} (ha : a) (hb : a → b) : a ∧ b := ⟨ha, hb ha⟩
theorem drew_heapE (X : World) : X.drew.heap = X.heap := rfl
def faultV (e a : Int) : Value := .iface 102 (.agg #[.int .i64 e, .int .i64 a])
def faultC (e a : Int) : List PanicEntry := [{ v := faultV e a, recovered := false }]
def faultR (e a : Int) : List PanicEntry := [{ v := faultV e a, recovered := true }]
set_option maxRecDepth 100000 in
theorem must_yes (e a : Int) (w : World) : Calls Tryd.prog 64 #[.bool true, .int .i64 e, .int .i64 a] w fun x w' => x = .returned (.tuple #[]) ∧ w = w' := by
  go_enter Tryd.func64, Tryd.ntmps64
  go_wp2
  go_end0
  exact ⟨rfl, rfl⟩
set_option maxRecDepth 100000 in
theorem must_no (e a : Int) (w : World) : Calls Tryd.prog 64 #[.bool false, .int .i64 e, .int .i64 a] w fun x w' => x = .panicked (faultC e a) ∧ w = w' := by
  have hp : ∀ (v : Value) (w : World), (Instr.panic (.iface 102 v)).run Tryd.prog w = .halt (.panic (.iface 102 v)) w := fun _ _ => rfl
  go_enter Tryd.func64, Tryd.ntmps64
  go_wp2
  exact ⟨rfl, rfl, rfl⟩
set_option maxRecDepth 100000 in
theorem get1_idle (a0 a1 a2 : Addr) (w : World) :
    CallsD Tryd.prog 63 #[.pointer (some a0), .pointer (some a1), .pointer (some a2)] .returning w fun e u' w' => e = .returned (.tuple #[]) ∧ u' = .returning ∧ Below w.heap.size w w' := by
  have ht : ∀ w : World, (Instr.typeAssert .nilIface 20 102 true).run Tryd.prog w = .ok (.tuple #[.agg #[.int .i64 0, .int .i64 0], .bool false]) w := fun _ => by kernel_rfl
  have hb : ∀ o : Obj, Below w.heap.size w (w.alloc o) := fun o => (Below.refl _ w).alloc (Nat.le_refl _) o
  refine callsD_of_wpS Tryd.func63 rfl fun c₀ cs hu => ?_
  have hro : recoverD (c₀ :: cs) = none := by simp [recoverD, hu]
  apply wpS_seq
  refine wpS_region_rec rfl rfl rfl .nilIface (c₀ :: cs) (.inr ⟨hro, rfl, rfl⟩) (by rintro ⟨a, w, u, h, -⟩; cases h) ?_
  show wpList _ _ _ _ { tmps := #[.pointer (some a0), .pointer (some a1), .pointer (some a2), undef, undef, undef, .nilIface, undef, undef, undef, undef, undef, undef, undef], defers := [] } w
  go_wp2
  refine wpS_of_wp ?_
  go_wp2
  refine ⟨rfl, .returning, ?_, .tuple #[], results_none rfl _ _ _, rfl, rfl, hb _⟩
  cases c₀; simp_all
set_option maxRecDepth 100000 in
set_option maxHeartbeats 1000000 in
theorem get1_catch (n : Nat) (e a : Int) (k i : Int) (s : List UInt8) (x y : Int) (w : World) (q0 : w.heap[n]? = some (.cells #[.int .i64 k, .int .i64 i, .string (str s)] 43 (0, 0))) (q1 : w.heap[n + 1]? = some (.cells #[.int .i64 x] 3 (0, 0))) (q2 : w.heap[n + 2]? = some (.cells #[.int .i64 y] 30 (0, 0))) :
    CallsD Tryd.prog 63 #[.pointer (some ⟨n, 0, none⟩), .pointer (some ⟨n + 1, 0, none⟩), .pointer (some ⟨n + 2, 0, none⟩)] (.panicking (faultC e a)) w fun en u' w' => en = .returned (.tuple #[]) ∧ u' = .panicking (faultR e a) ∧ w'.heap[n]? = some (.cells #[.int .i64 0, .int .i64 0, .string (str [])] 43 (0, 0)) ∧ w'.heap[n + 1]? = some (.cells #[.int .i64 0] 3 (0, 0)) ∧ w'.heap[n + 2]? = some (.cells #[.int .i64 e] 30 (0, 0)) ∧ Below n w w' := by
  have ht : ∀ w : World, (Instr.typeAssert (faultV e a) 20 102 true).run Tryd.prog w = .ok (.tuple #[.agg #[.int .i64 e, .int .i64 a], .bool true]) w := fun _ => by kernel_rfl
  refine callsD_of_wpS Tryd.func63 rfl fun c₀ cs hu => ?_
  obtain ⟨c1, hc1⟩ : ∃ c1 : Frame, c1 = { c₀ with mode := .panicking (faultR e a) } := ⟨_, rfl⟩
  have hro : recoverD (c₀ :: cs) = some (faultV e a, c1 :: cs) := by simp [recoverD, hu, faultC, hc1, faultR]
  apply wpS_seq
  refine wpS_region_rec rfl rfl rfl (faultV e a) (c1 :: cs) (.inl hro) (by rintro ⟨a, w, u, h, -⟩; cases h) ?_
  show wpList _ _ _ _ { tmps := #[.pointer (some ⟨n, 0, none⟩), .pointer (some ⟨n + 1, 0, none⟩), .pointer (some ⟨n + 2, 0, none⟩), undef, undef, undef, faultV e a, undef, undef, undef, undef, undef, undef, undef], defers := [] } w
  go_wp2
  refine wpS_of_wp ?_
  go_wp2
  have hn0 : n + 2 < w.heap.size := lt_of_block q2
  have qf := heap_alloc_new w (.cells #[.int .i64 e, .int .i64 a] 102)
  have bel := (Below.refl w.heap.size w).alloc (Nat.le_refl _) (.cells #[.int .i64 e, .int .i64 a] 102)
  replace q0 := (bel.block _ (lt_of_block q0)).trans q0
  replace q1 := (bel.block _ (lt_of_block q1)).trans q1
  replace q2 := (bel.block _ (lt_of_block q2)).trans q2
  obtain ⟨W0, hW0⟩ : ∃ W, W = w.alloc (.cells #[.int .i64 e, .int .i64 a] 102) := ⟨_, rfl⟩
  rw [← hW0] at qf bel q0 q1 q2 ⊢
  clear hW0
  have hS : W0.drew.heap[w.heap.size]? = some (.cells #[.int .i64 e, .int .i64 a] 102 (0, 0)) := qf
  clear qf
  refine gs_start (S := fun W => W.heap[w.heap.size]? = some (.cells #[.int .i64 e, .int .i64 a] 102 (0, 0))) (by kernel_rfl) ?_
  refine gs_take (i := 1) (d := (some 12)) (v := ?_) rfl rfl (by kernel_rfl) (fun _ _ _ h => h) (by rfl) hS (fun w' hb' => ?_) ?_
  rotate_left
  · (try go_simp); (try with_reducible rfl)
  try simp only [Act.put, List.setIfInBounds_toArray, List.set_cons_zero, List.set_cons_succ]
  refine gs_take (i := 2) (d := (some 13)) (v := ?_) rfl rfl (by kernel_rfl) (fun _ _ _ h => h) (by rfl) hS (fun w' hb' => ?_) ?_
  rotate_left
  · have zz := block_cell hb' 0; (try go_simp); (try with_reducible rfl)
  try simp only [Act.put, List.setIfInBounds_toArray, List.set_cons_zero, List.set_cons_succ]
  refine gs_run (i := 0) rfl (by kernel_rfl) (by rfl) (fun K hK => ?_)
  go_simp
  refine hK _ _ ⟨hS, ?_⟩
  clear hK K
  try simp only [Act.put, List.setIfInBounds_toArray, List.set_cons_zero, List.set_cons_succ]
  refine gs_run (i := 3) rfl (by kernel_rfl) (by rfl) (fun K hK => ?_)
  have c0_0 := block_cell q0 0
  have c0_1 := block_cell q0 1
  have c0_2 := block_cell q0 2
  have cf0 := fun i => block_frozen q0 i
  go_simp
  refine hK _ _ (and_keep ?_ fun hS2 => ?_)
  · exact (set_old (by omega)).trans ((set_old (by omega)).trans ((set_old (by omega)).trans (hS)))
  clear hK K hS
  have hS := hS2
  clear hS2
  try simp only [Act.put, List.setIfInBounds_toArray, List.set_cons_zero, List.set_cons_succ]
  refine gs_run (i := 4) rfl (by kernel_rfl) (by rfl) (fun K hK => ?_)
  have c1_0 := block_cell q1 0
  have cf1 := fun i => block_frozen q1 i
  go_simp
  refine hK _ _ (and_keep ?_ fun hS2 => ?_)
  · exact (set_old (by omega)).trans (hS)
  clear hK K hS
  have hS := hS2
  clear hS2
  try simp only [Act.put, List.setIfInBounds_toArray, List.set_cons_zero, List.set_cons_succ]
  refine gs_run (i := 5) rfl (by kernel_rfl) (by rfl) (fun K hK => ?_)
  have c2_0 := block_cell q2 0
  have cf2 := fun i => block_frozen q2 i
  go_simp
  refine hK _ _ (and_keep ?_ fun hS2 => ?_)
  · exact (set_old (by omega)).trans (hS)
  clear hK K hS
  have hS := hS2
  clear hS2
  try simp only [Act.put, List.setIfInBounds_toArray, List.set_cons_zero, List.set_cons_succ]
  refine gs_done (by kernel_rfl) ?_
  refine ⟨rfl, .panicking (faultR e a), by rw [hc1], .tuple #[], results_none rfl _ _ _, rfl, rfl, ?_, ?_, ?_, ?_⟩
  · rw [drew_heapE]; exact ((set_old (i := 0) (u := .int .i64 e) (by omega)).trans ((set_old (i := 0) (u := .int .i64 0) (by omega)).trans (set_at (i := 2) (u := .string (str [])) ((set_at (i := 1) (u := .int .i64 0) ((set_at (i := 0) (u := .int .i64 0) q0)))))))
  · rw [drew_heapE]; exact ((set_old (i := 0) (u := .int .i64 e) (by omega)).trans (set_at (i := 0) (u := .int .i64 0) (((set_old (i := 2) (u := .string (str [])) (by omega)).trans ((set_old (i := 1) (u := .int .i64 0) (by omega)).trans ((set_old (i := 0) (u := .int .i64 0) (by omega)).trans q1))))))
  · rw [drew_heapE]; exact (set_at (i := 0) (u := .int .i64 e) (((set_old (i := 0) (u := .int .i64 0) (by omega)).trans ((set_old (i := 2) (u := .string (str [])) (by omega)).trans ((set_old (i := 1) (u := .int .i64 0) (by omega)).trans ((set_old (i := 0) (u := .int .i64 0) (by omega)).trans q2))))))
  · exact ((((((bel.mono (show n ≤ w.heap.size by omega)).setCell (p := ⟨n, 0, none⟩) (show n ≤ n by omega) (.int .i64 0)).setCell (p := ⟨n, 1, none⟩) (show n ≤ n by omega) (.int .i64 0)).setCell (p := ⟨n, 2, none⟩) (show n ≤ n by omega) (.string (str []))).setCell (p := ⟨n + 1, 0, none⟩) (show n ≤ n + 1 by omega) (.int .i64 0)).setCell (p := ⟨n + 2, 0, none⟩) (show n ≤ n + 2 by omega) (.int .i64 e)).drew
theorem zS_one : zS.all (·.oneCell') = true := by kernel_rfl
theorem hb_zero (w : World) : (Instr.build 28 #[]).run Tryd.prog w = .ok (.agg zS) w := run_build w _ _ _ zS_built
set_option maxRecDepth 100000 in
theorem take1_idle (a0 a1 a2 : Addr) (w : World) :
    CallsD Tryd.prog 73 #[.pointer (some a0), .pointer (some a1), .pointer (some a2)] .returning w fun e u' w' => e = .returned (.tuple #[]) ∧ u' = .returning ∧ Below w.heap.size w w' := by
  have ht : ∀ w : World, (Instr.typeAssert .nilIface 20 102 true).run Tryd.prog w = .ok (.tuple #[.agg #[.int .i64 0, .int .i64 0], .bool false]) w := fun _ => by kernel_rfl
  have hb : ∀ o : Obj, Below w.heap.size w (w.alloc o) := fun o => (Below.refl _ w).alloc (Nat.le_refl _) o
  refine callsD_of_wpS Tryd.func73 rfl fun c₀ cs hu => ?_
  have hro : recoverD (c₀ :: cs) = none := by simp [recoverD, hu]
  apply wpS_seq
  refine wpS_region_rec rfl rfl rfl .nilIface (c₀ :: cs) (.inr ⟨hro, rfl, rfl⟩) (by rintro ⟨a, w, u, h, -⟩; cases h) ?_
  show wpList _ _ _ _ { tmps := #[.pointer (some a0), .pointer (some a1), .pointer (some a2), undef, undef, undef, .nilIface, undef, undef, undef, undef, undef, undef, undef, undef, undef], defers := [] } w
  go_wp2
  refine wpS_of_wp ?_
  go_wp2
  refine ⟨rfl, .returning, ?_, .tuple #[], results_none rfl _ _ _, rfl, rfl, hb _⟩
  cases c₀; simp_all
set_option maxRecDepth 100000 in
set_option maxHeartbeats 1000000 in
theorem take1_catch (n : Nat) (e a : Int) (C0 : Array Value) (hC0 : C0.size = 35) (x y : Int) (w : World) (q0 : w.heap[n]? = some (.cells C0 28 (0, 0))) (q1 : w.heap[n + 1]? = some (.cells #[.int .i64 x] 30 (0, 0))) (q2 : w.heap[n + 2]? = some (.cells #[.int .i64 y] 3 (0, 0))) :
    CallsD Tryd.prog 73 #[.pointer (some ⟨n, 0, none⟩), .pointer (some ⟨n + 1, 0, none⟩), .pointer (some ⟨n + 2, 0, none⟩)] (.panicking (faultC e a)) w fun en u' w' => en = .returned (.tuple #[]) ∧ u' = .panicking (faultR e a) ∧ w'.heap[n]? = some (.cells zS 28 (0, 0)) ∧ w'.heap[n + 1]? = some (.cells #[.int .i64 e] 30 (0, 0)) ∧ w'.heap[n + 2]? = some (.cells #[.int .i64 a] 3 (0, 0)) ∧ Below n w w' := by
  have ht : ∀ w : World, (Instr.typeAssert (faultV e a) 20 102 true).run Tryd.prog w = .ok (.tuple #[.agg #[.int .i64 e, .int .i64 a], .bool true]) w := fun _ => by kernel_rfl
  refine callsD_of_wpS Tryd.func73 rfl fun c₀ cs hu => ?_
  obtain ⟨c1, hc1⟩ : ∃ c1 : Frame, c1 = { c₀ with mode := .panicking (faultR e a) } := ⟨_, rfl⟩
  have hro : recoverD (c₀ :: cs) = some (faultV e a, c1 :: cs) := by simp [recoverD, hu, faultC, hc1, faultR]
  apply wpS_seq
  refine wpS_region_rec rfl rfl rfl (faultV e a) (c1 :: cs) (.inl hro) (by rintro ⟨a, w, u, h, -⟩; cases h) ?_
  show wpList _ _ _ _ { tmps := #[.pointer (some ⟨n, 0, none⟩), .pointer (some ⟨n + 1, 0, none⟩), .pointer (some ⟨n + 2, 0, none⟩), undef, undef, undef, faultV e a, undef, undef, undef, undef, undef, undef, undef, undef, undef], defers := [] } w
  go_wp2
  refine wpS_of_wp ?_
  go_wp2
  have hbz := hb_zero
  have hn0 : n + 2 < w.heap.size := lt_of_block q2
  have qf := heap_alloc_new w (.cells #[.int .i64 e, .int .i64 a] 102)
  have bel := (Below.refl w.heap.size w).alloc (Nat.le_refl _) (.cells #[.int .i64 e, .int .i64 a] 102)
  replace q0 := (bel.block _ (lt_of_block q0)).trans q0
  replace q1 := (bel.block _ (lt_of_block q1)).trans q1
  replace q2 := (bel.block _ (lt_of_block q2)).trans q2
  obtain ⟨W0, hW0⟩ : ∃ W, W = w.alloc (.cells #[.int .i64 e, .int .i64 a] 102) := ⟨_, rfl⟩
  rw [← hW0] at qf bel q0 q1 q2 ⊢
  clear hW0
  have hS : W0.drew.heap[w.heap.size]? = some (.cells #[.int .i64 e, .int .i64 a] 102 (0, 0)) := qf
  clear qf
  refine gs_start (S := fun W => W.heap[w.heap.size]? = some (.cells #[.int .i64 e, .int .i64 a] 102 (0, 0))) (by kernel_rfl) ?_
  refine gs_take (i := 1) (d := (some 12)) (v := ?_) rfl rfl (by kernel_rfl) (fun _ _ _ h => h) (by rfl) hS (fun w' hb' => ?_) ?_
  rotate_left
  · (try go_simp); (try with_reducible rfl)
  try simp only [Act.put, List.setIfInBounds_toArray, List.set_cons_zero, List.set_cons_succ]
  refine gs_take (i := 2) (d := (some 13)) (v := ?_) rfl rfl (by kernel_rfl) (fun _ _ _ h => h) (by rfl) hS (fun w' hb' => ?_) ?_
  rotate_left
  · have zz := block_cell hb' 0; (try go_simp); (try with_reducible rfl)
  try simp only [Act.put, List.setIfInBounds_toArray, List.set_cons_zero, List.set_cons_succ]
  refine gs_take (i := 3) (d := (some 14)) (v := ?_) rfl rfl (by kernel_rfl) (fun _ _ _ h => h) (by rfl) hS (fun w' hb' => ?_) ?_
  rotate_left
  · (try go_simp); (try with_reducible rfl)
  try simp only [Act.put, List.setIfInBounds_toArray, List.set_cons_zero, List.set_cons_succ]
  refine gs_take (i := 4) (d := (some 15)) (v := ?_) rfl rfl (by kernel_rfl) (fun _ _ _ h => h) (by rfl) hS (fun w' hb' => ?_) ?_
  rotate_left
  · have zz := block_cell hb' 1; (try go_simp); (try with_reducible rfl)
  try simp only [Act.put, List.setIfInBounds_toArray, List.set_cons_zero, List.set_cons_succ]
  refine gs_run (i := 0) rfl (by kernel_rfl) (by rfl) (fun K hK => ?_)
  go_simp
  refine hK _ _ ⟨hS, ?_⟩
  clear hK K
  try simp only [Act.put, List.setIfInBounds_toArray, List.set_cons_zero, List.set_cons_succ]
  refine gs_run (i := 5) rfl (by kernel_rfl) (by rfl) (fun K hK => ?_)
  refine wp_store_row 28 (.tmp 0) (.tmp 11) rfl _ zS rfl rfl _ C0 q0 (infoS rfl) (by rw [hC0]; rfl) zS_one ?_
  obtain ⟨W1, hW1⟩ : ∃ W, W = World.setRow W0.drew n zS := ⟨_, rfl⟩
  rw [← hW1]
  have hS2 : W1.heap[w.heap.size]? = some (.cells #[.int .i64 e, .int .i64 a] 102 (0, 0)) := by rw [hW1]; exact (setRow_other _ _ _ _ (by omega)).trans hS
  have q0 : W1.heap[n]? = some (.cells zS 28 (0, 0)) := by rw [hW1]; exact setRow_heap _ _ _ zS _ _ q0
  have q1 : W1.heap[n + 1]? = some (.cells #[.int .i64 x] 30 (0, 0)) := by rw [hW1]; exact (setRow_other _ _ _ _ (by omega)).trans q1
  have q2 : W1.heap[n + 2]? = some (.cells #[.int .i64 y] 3 (0, 0)) := by rw [hW1]; exact (setRow_other _ _ _ _ (by omega)).trans q2
  have belw : Below n w W1 := by rw [hW1]; exact below_row (bel.mono (show n ≤ w.heap.size by omega)).drew (Nat.le_refl n) zS
  refine hK _ _ ⟨hS2, ?_⟩
  clear hK K hS hW1
  have hS := hS2
  clear hS2
  try simp only [Act.put, List.setIfInBounds_toArray, List.set_cons_zero, List.set_cons_succ]
  refine gs_run (i := 6) rfl (by kernel_rfl) (by rfl) (fun K hK => ?_)
  have c1_0 := block_cell q1 0
  have cf1 := fun i => block_frozen q1 i
  go_simp
  refine hK _ _ (and_keep ?_ fun hS2 => ?_)
  · exact (set_old (by omega)).trans (hS)
  clear hK K hS
  have hS := hS2
  clear hS2
  try simp only [Act.put, List.setIfInBounds_toArray, List.set_cons_zero, List.set_cons_succ]
  refine gs_run (i := 7) rfl (by kernel_rfl) (by rfl) (fun K hK => ?_)
  have c2_0 := block_cell q2 0
  have cf2 := fun i => block_frozen q2 i
  go_simp
  refine hK _ _ (and_keep ?_ fun hS2 => ?_)
  · exact (set_old (by omega)).trans (hS)
  clear hK K hS
  have hS := hS2
  clear hS2
  try simp only [Act.put, List.setIfInBounds_toArray, List.set_cons_zero, List.set_cons_succ]
  refine gs_done (by kernel_rfl) ?_
  refine ⟨rfl, .panicking (faultR e a), by rw [hc1], .tuple #[], results_none rfl _ _ _, rfl, rfl, ?_, ?_, ?_, ?_⟩
  · exact (set_old (by omega)).trans ((set_old (by omega)).trans q0)
  · exact (set_old (by omega)).trans (set_at (i := 0) (u := .int .i64 e) q1)
  · exact set_at (i := 0) (u := .int .i64 a) ((set_old (by omega)).trans q2)
  · exact (belw.setCell (p := ⟨n + 1, 0, none⟩) (show n ≤ n + 1 by omega) (.int .i64 e)).setCell (p := ⟨n + 2, 0, none⟩) (show n ≤ n + 2 by omega) (.int .i64 a)
set_option maxRecDepth 100000 in
theorem undo1_idle (a0 a1 : Addr) (w : World) :
    CallsD Tryd.prog 79 #[.pointer (some a0), .pointer (some a1)] .returning w fun e u' w' => e = .returned (.tuple #[]) ∧ u' = .returning ∧ Below w.heap.size w w' := by
  have ht : ∀ w : World, (Instr.typeAssert .nilIface 20 102 true).run Tryd.prog w = .ok (.tuple #[.agg #[.int .i64 0, .int .i64 0], .bool false]) w := fun _ => by kernel_rfl
  have hb : ∀ o : Obj, Below w.heap.size w (w.alloc o) := fun o => (Below.refl _ w).alloc (Nat.le_refl _) o
  refine callsD_of_wpS Tryd.func79 rfl fun c₀ cs hu => ?_
  have hro : recoverD (c₀ :: cs) = none := by simp [recoverD, hu]
  apply wpS_seq
  refine wpS_region_rec rfl rfl rfl .nilIface (c₀ :: cs) (.inr ⟨hro, rfl, rfl⟩) (by rintro ⟨a, w, u, h, -⟩; cases h) ?_
  show wpList _ _ _ _ { tmps := #[.pointer (some a0), .pointer (some a1), undef, undef, undef, .nilIface, undef, undef, undef, undef, undef, undef], defers := [] } w
  go_wp2
  refine wpS_of_wp ?_
  go_wp2
  refine ⟨rfl, .returning, ?_, .tuple #[], results_none rfl _ _ _, rfl, rfl, hb _⟩
  cases c₀; simp_all
set_option maxRecDepth 100000 in
set_option maxHeartbeats 1000000 in
theorem undo1_catch (n : Nat) (e a : Int) (v0 : Value) (x : Int) (w : World) (q0 : w.heap[n]? = some (.cells #[v0] 57 (0, 0))) (q1 : w.heap[n + 1]? = some (.cells #[.int .i64 x] 30 (0, 0))) :
    CallsD Tryd.prog 79 #[.pointer (some ⟨n, 0, none⟩), .pointer (some ⟨n + 1, 0, none⟩)] (.panicking (faultC e a)) w fun en u' w' => en = .returned (.tuple #[]) ∧ u' = .panicking (faultR e a) ∧ w'.heap[n]? = some (.cells #[.slice none 0 0] 57 (0, 0)) ∧ w'.heap[n + 1]? = some (.cells #[.int .i64 e] 30 (0, 0)) ∧ Below n w w' := by
  have ht : ∀ w : World, (Instr.typeAssert (faultV e a) 20 102 true).run Tryd.prog w = .ok (.tuple #[.agg #[.int .i64 e, .int .i64 a], .bool true]) w := fun _ => by kernel_rfl
  refine callsD_of_wpS Tryd.func79 rfl fun c₀ cs hu => ?_
  obtain ⟨c1, hc1⟩ : ∃ c1 : Frame, c1 = { c₀ with mode := .panicking (faultR e a) } := ⟨_, rfl⟩
  have hro : recoverD (c₀ :: cs) = some (faultV e a, c1 :: cs) := by simp [recoverD, hu, faultC, hc1, faultR]
  apply wpS_seq
  refine wpS_region_rec rfl rfl rfl (faultV e a) (c1 :: cs) (.inl hro) (by rintro ⟨a, w, u, h, -⟩; cases h) ?_
  show wpList _ _ _ _ { tmps := #[.pointer (some ⟨n, 0, none⟩), .pointer (some ⟨n + 1, 0, none⟩), undef, undef, undef, faultV e a, undef, undef, undef, undef, undef, undef], defers := [] } w
  go_wp2
  refine wpS_of_wp ?_
  go_wp2
  have hn0 : n + 1 < w.heap.size := lt_of_block q1
  have qf := heap_alloc_new w (.cells #[.int .i64 e, .int .i64 a] 102)
  have bel := (Below.refl w.heap.size w).alloc (Nat.le_refl _) (.cells #[.int .i64 e, .int .i64 a] 102)
  replace q0 := (bel.block _ (lt_of_block q0)).trans q0
  replace q1 := (bel.block _ (lt_of_block q1)).trans q1
  obtain ⟨W0, hW0⟩ : ∃ W, W = w.alloc (.cells #[.int .i64 e, .int .i64 a] 102) := ⟨_, rfl⟩
  rw [← hW0] at qf bel q0 q1 ⊢
  clear hW0
  have hS : W0.drew.heap[w.heap.size]? = some (.cells #[.int .i64 e, .int .i64 a] 102 (0, 0)) := qf
  clear qf
  refine gs_start (S := fun W => W.heap[w.heap.size]? = some (.cells #[.int .i64 e, .int .i64 a] 102 (0, 0))) (by kernel_rfl) ?_
  refine gs_take (i := 0) (d := (some 10)) (v := ?_) rfl rfl (by kernel_rfl) (fun _ _ _ h => h) (by rfl) hS (fun w' hb' => ?_) ?_
  rotate_left
  · (try go_simp); (try with_reducible rfl)
  try simp only [Act.put, List.setIfInBounds_toArray, List.set_cons_zero, List.set_cons_succ]
  refine gs_take (i := 1) (d := (some 11)) (v := ?_) rfl rfl (by kernel_rfl) (fun _ _ _ h => h) (by rfl) hS (fun w' hb' => ?_) ?_
  rotate_left
  · have zz := block_cell hb' 0; (try go_simp); (try with_reducible rfl)
  try simp only [Act.put, List.setIfInBounds_toArray, List.set_cons_zero, List.set_cons_succ]
  refine gs_run (i := 2) rfl (by kernel_rfl) (by rfl) (fun K hK => ?_)
  have c0_0 := block_cell q0 0
  have cf0 := fun i => block_frozen q0 i
  go_simp
  refine hK _ _ (and_keep ?_ fun hS2 => ?_)
  · exact (set_old (by omega)).trans (hS)
  clear hK K hS
  have hS := hS2
  clear hS2
  try simp only [Act.put, List.setIfInBounds_toArray, List.set_cons_zero, List.set_cons_succ]
  refine gs_run (i := 3) rfl (by kernel_rfl) (by rfl) (fun K hK => ?_)
  have c1_0 := block_cell q1 0
  have cf1 := fun i => block_frozen q1 i
  go_simp
  refine hK _ _ (and_keep ?_ fun hS2 => ?_)
  · exact (set_old (by omega)).trans (hS)
  clear hK K hS
  have hS := hS2
  clear hS2
  try simp only [Act.put, List.setIfInBounds_toArray, List.set_cons_zero, List.set_cons_succ]
  refine gs_done (by kernel_rfl) ?_
  refine ⟨rfl, .panicking (faultR e a), by rw [hc1], .tuple #[], results_none rfl _ _ _, rfl, rfl, ?_, ?_, ?_⟩
  · rw [drew_heapE]; exact ((set_old (i := 0) (u := .int .i64 e) (by omega)).trans (set_at (i := 0) (u := .slice none 0 0) q0))
  · rw [drew_heapE]; exact (set_at (i := 0) (u := .int .i64 e) (((set_old (i := 0) (u := .slice none 0 0) (by omega)).trans q1)))
  · exact (((bel.mono (show n ≤ w.heap.size by omega)).setCell (p := ⟨n, 0, none⟩) (show n ≤ n by omega) (.slice none 0 0)).setCell (p := ⟨n + 1, 0, none⟩) (show n ≤ n + 1 by omega) (.int .i64 e)).drew
end Go.Proofs.YtbdfcgffkonbiaaDoor
