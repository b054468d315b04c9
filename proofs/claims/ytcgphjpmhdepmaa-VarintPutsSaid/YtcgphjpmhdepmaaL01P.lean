/- The statement on what is put, as a walk. -/
import Derived.Test.YtcgphjpmhdepmaaL01C
import Derived.Test.YtcgphjpmhdepmaaReg
namespace Go.Proofs.Ytcgphjpmhdepmaa
open Go.RowKit
set_option linter.unusedVariables false
set_option linter.unusedSimpArgs false
set_option maxRecDepth 100000 in
set_option maxHeartbeats 1000000 in
theorem puts_any (v w : Int) (W : World) (hv : (Lit.int .u64 v).wf = true) (hw : (Lit.int .i64 w).wf = true) :
    Calls Try.prog 4 #[.int .u64 v, .int .i64 w] W fun e w' => e = .returned (.bool true) ∧ Below W.heap.size W w' := by
  have hu := u64_of_wf hv
  have hi := i64_of_wf hw
  obtain ⟨n, rfl, hn⟩ := nat_of_u64 hu
  have hz := zigN_u64 hi
  clear hv hw hn
  have hsz := str_size (putL n)
  have B : Below W.heap.size W W.drew := (Below.refl _ _).drew
  go_enter Try.func4, Try.ntmps4
  go_wp2
  refine g_start (by kernel_rfl) ?_
  refine g_take (i := 0) (d := (some 5)) (v := ?_) rfl rfl (by kernel_rfl) (fun _ _ _ h => h) (by rfl) (fun w' hb' => ?_) ?_
  rotate_left
  · (try go_simp); (try with_reducible rfl)
  try simp only [Act.put, List.setIfInBounds_toArray, List.set_cons_zero, List.set_cons_succ]
  refine g_take (i := 3) (d := (some 8)) (v := ?_) rfl rfl (by kernel_rfl) (fun _ _ _ h => h) (by rfl) (fun w' hb' => ?_) ?_
  rotate_left
  · (try go_simp); (try with_reducible rfl)
  try simp only [Act.put, List.setIfInBounds_toArray, List.set_cons_zero, List.set_cons_succ]
  refine g_run (i := 1) rfl (by kernel_rfl) (by rfl) (fun K hK => ?_)
  go_simp; refine (put_at _ n rfl hu _).mono ?_; rintro e W1 ⟨gW1, mW1, capW1, rfl, _, _, oW1, b⟩; refine hK _ _ ⟨b, ?_⟩; have B := B.trans (b.mono B.size); have r1 := own_rd oW1; clear hK K b oW1
  try simp only [Act.put, List.setIfInBounds_toArray, List.set_cons_zero, List.set_cons_succ]
  refine g_take (i := 2) (d := (some 7)) (v := ?_) rfl rfl (by kernel_rfl) (fun _ _ _ h => h) (by rfl) (fun w' hb' => ?_) ?_
  rotate_left
  · have kk := cv (r1.below hb' (Nat.le_refl _)); (try go_simp); (try with_reducible rfl)
  try simp only [Act.put, List.setIfInBounds_toArray, List.set_cons_zero, List.set_cons_succ]
  refine g_run (i := 4) rfl (by kernel_rfl) (by rfl) (fun K hK => ?_)
  go_simp; refine (refPut_any _ n rfl hu _).mono ?_; rintro e W2 ⟨rfl, b⟩; refine hK _ _ ⟨b, ?_⟩; have B := B.trans (b.mono B.size); clear hK K b
  try simp only [Act.put, List.setIfInBounds_toArray, List.set_cons_zero, List.set_cons_succ]
  refine g_take (i := 5) (d := (some 10)) (v := ?_) rfl rfl (by kernel_rfl) (fun _ _ _ h => h) (by rfl) (fun w' hb' => ?_) ?_
  rotate_left
  · (try go_simp); (try with_reducible rfl)
  try simp only [Act.put, List.setIfInBounds_toArray, List.set_cons_zero, List.set_cons_succ]
  refine g_take (i := 6) (d := (some 11)) (v := ?_) rfl rfl (by kernel_rfl) (fun _ _ _ h => h) (by rfl) (fun w' hb' => ?_) ?_
  rotate_left
  · (try go_simp); (try with_reducible rfl)
  try simp only [Act.put, List.setIfInBounds_toArray, List.set_cons_zero, List.set_cons_succ]
  refine g_take (i := 7) (d := (some 12)) (v := ?_) rfl rfl (by kernel_rfl) (fun _ _ _ h => h) (by rfl) (fun w' hb' => ?_) ?_
  rotate_left
  · (try go_simp); (try with_reducible rfl)
  try simp only [Act.put, List.setIfInBounds_toArray, List.set_cons_zero, List.set_cons_succ]
  refine g_take (i := 9) (d := (some 14)) (v := ?_) rfl rfl (by kernel_rfl) (fun _ _ _ h => h) (by rfl) (fun w' hb' => ?_) ?_
  rotate_left
  · (try go_simp); (try with_reducible rfl)
  try simp only [Act.put, List.setIfInBounds_toArray, List.set_cons_zero, List.set_cons_succ]
  refine g_run (i := 8) rfl (by kernel_rfl) (by rfl) (fun K hK => ?_)
  go_simp; refine (size_any n hu _).mono ?_; rintro e w' ⟨rfl, rfl⟩; refine hK _ _ ⟨Below.refl _ _, ?_⟩; clear hK K
  try simp only [Act.put, List.setIfInBounds_toArray, List.set_cons_zero, List.set_cons_succ]
  refine g_run (i := 10) rfl (by kernel_rfl) (by rfl) (fun K hK => ?_)
  go_simp; refine (refPut_any _ n rfl hu _).mono ?_; rintro e W3 ⟨rfl, b⟩; refine hK _ _ ⟨b, ?_⟩; have B := B.trans (b.mono B.size); clear hK K b
  try simp only [Act.put, List.setIfInBounds_toArray, List.set_cons_zero, List.set_cons_succ]
  refine g_take (i := 11) (d := (some 16)) (v := ?_) rfl rfl (by kernel_rfl) (fun _ _ _ h => h) (by rfl) (fun w' hb' => ?_) ?_
  rotate_left
  · (try go_simp); (try with_reducible rfl)
  try simp only [Act.put, List.setIfInBounds_toArray, List.set_cons_zero, List.set_cons_succ]
  refine g_take (i := 12) (d := (some 17)) (v := ?_) rfl rfl (by kernel_rfl) (fun _ _ _ h => h) (by rfl) (fun w' hb' => ?_) ?_
  rotate_left
  · (try go_simp); (try with_reducible rfl)
  try simp only [Act.put, List.setIfInBounds_toArray, List.set_cons_zero, List.set_cons_succ]
  refine g_take (i := 13) (d := (some 18)) (v := ?_) rfl rfl (by kernel_rfl) (fun _ _ _ h => h) (by rfl) (fun w' hb' => ?_) ?_
  rotate_left
  · (try go_simp); (try with_reducible rfl)
  try simp only [Act.put, List.setIfInBounds_toArray, List.set_cons_zero, List.set_cons_succ]
  refine g_take (i := 14) (d := (some 19)) (v := ?_) rfl rfl (by kernel_rfl) (fun _ _ _ h => h) (by rfl) (fun w' hb' => ?_) ?_
  rotate_left
  · (try go_simp); (try with_reducible rfl)
  try simp only [Act.put, List.setIfInBounds_toArray, List.set_cons_zero, List.set_cons_succ]
  refine g_take (i := 15) (d := (some 20)) (v := ?_) rfl rfl (by kernel_rfl) (fun _ _ _ h => h) (by rfl) (fun w' hb' => ?_) ?_
  rotate_left
  · (try go_simp); (try with_reducible rfl)
  try simp only [Act.put, List.setIfInBounds_toArray, List.set_cons_zero, List.set_cons_succ]
  refine g_take (i := 18) (d := (some 23)) (v := ?_) rfl rfl (by kernel_rfl) (fun _ _ _ h => h) (by rfl) (fun w' hb' => ?_) ?_
  rotate_left
  · (try go_simp); (try with_reducible rfl)
  try simp only [Act.put, List.setIfInBounds_toArray, List.set_cons_zero, List.set_cons_succ]
  refine g_run (i := 16) rfl (by kernel_rfl) (by rfl) (fun K hK => ?_)
  go_simp; refine (putInt_any w hi _).mono ?_; rintro e W4 ⟨gW4, mW4, capW4, rfl, _, _, oW4, b⟩; refine hK _ _ ⟨b, ?_⟩; have B := B.trans (b.mono B.size); have r2 := own_rd oW4; clear hK K b oW4
  try simp only [Act.put, List.setIfInBounds_toArray, List.set_cons_zero, List.set_cons_succ]
  refine g_take (i := 17) (d := (some 22)) (v := ?_) rfl rfl (by kernel_rfl) (fun _ _ _ h => h) (by rfl) (fun w' hb' => ?_) ?_
  rotate_left
  · have kk := cv (r2.below hb' (Nat.le_refl _)); (try go_simp); (try with_reducible rfl)
  try simp only [Act.put, List.setIfInBounds_toArray, List.set_cons_zero, List.set_cons_succ]
  refine g_run (i := 19) rfl (by kernel_rfl) (by rfl) (fun K hK => ?_)
  go_simp; refine (zig_any w hi _).mono ?_; rintro e w' ⟨rfl, rfl⟩; refine hK _ _ ⟨Below.refl _ _, ?_⟩; clear hK K
  try simp only [Act.put, List.setIfInBounds_toArray, List.set_cons_zero, List.set_cons_succ]
  refine g_run (i := 20) rfl (by kernel_rfl) (by rfl) (fun K hK => ?_)
  go_simp; refine (refPut_any _ (zigN w) rfl hz _).mono ?_; rintro e W5 ⟨rfl, b⟩; refine hK _ _ ⟨b, ?_⟩; have B := B.trans (b.mono B.size); clear hK K b
  try simp only [Act.put, List.setIfInBounds_toArray, List.set_cons_zero, List.set_cons_succ]
  refine g_take (i := 21) (d := (some 26)) (v := ?_) rfl rfl (by kernel_rfl) (fun _ _ _ h => h) (by rfl) (fun w' hb' => ?_) ?_
  rotate_left
  · (try go_simp); (try with_reducible rfl)
  try simp only [Act.put, List.setIfInBounds_toArray, List.set_cons_zero, List.set_cons_succ]
  refine g_take (i := 22) (d := (some 27)) (v := ?_) rfl rfl (by kernel_rfl) (fun _ _ _ h => h) (by rfl) (fun w' hb' => ?_) ?_
  rotate_left
  · (try go_simp); (try with_reducible rfl)
  try simp only [Act.put, List.setIfInBounds_toArray, List.set_cons_zero, List.set_cons_succ]
  refine g_take (i := 23) (d := (some 28)) (v := ?_) rfl rfl (by kernel_rfl) (fun _ _ _ h => h) (by rfl) (fun w' hb' => ?_) ?_
  rotate_left
  · (try go_simp); (try with_reducible rfl)
  try simp only [Act.put, List.setIfInBounds_toArray, List.set_cons_zero, List.set_cons_succ]
  refine g_run (i := 24) rfl (by kernel_rfl) (by rfl) (fun K hK => ?_)
  go_simp; refine (awake_any _).mono ?_; rintro e W6 ⟨rfl, b⟩; refine hK _ _ ⟨b, ?_⟩; have B := B.trans (b.mono B.size); clear hK K b
  try simp only [Act.put, List.setIfInBounds_toArray, List.set_cons_zero, List.set_cons_succ]
  refine g_take (i := 25) (d := (some 30)) (v := ?_) rfl rfl (by kernel_rfl) (fun _ _ _ h => h) (by rfl) (fun w' hb' => ?_) ?_
  rotate_left
  · (try go_simp); (try with_reducible rfl)
  try simp only [Act.put, List.setIfInBounds_toArray, List.set_cons_zero, List.set_cons_succ]
  refine g_take (i := 26) (d := (some 4)) (v := ?_) rfl rfl (by kernel_rfl) (fun _ _ _ h => h) (by rfl) (fun w' hb' => ?_) ?_
  rotate_left
  · (try go_simp); (try with_reducible rfl)
  try simp only [Act.put, List.setIfInBounds_toArray, List.set_cons_zero, List.set_cons_succ]
  refine g_done (by kernel_rfl) ?_
  go_wp2
  go_ret
  exact ⟨rfl, B⟩
end Go.Proofs.Ytcgphjpmhdepmaa
