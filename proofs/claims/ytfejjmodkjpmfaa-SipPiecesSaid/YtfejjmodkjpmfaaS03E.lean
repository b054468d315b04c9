/- The tag of what was taken in. Written by wip/tools/gen3e.py. -/
import Derived.Test.YtfejjmodkjpmfaaS03D
import Derived.Laws.CopyOwn
namespace Go.Proofs.Ytfejjmodkjpmfaa
open Go.RowKit
set_option linter.unusedVariables false
set_option linter.unusedSimpArgs false
set_option maxRecDepth 100000 in
theorem copy_rest (WL : World) (g B : Nat) (s : St) (r0 r1 r2 r3 r4 r5 r6 r7 : UInt8) (N : Int) (cN : Nat) (zl : WL.heap[g]? = some (.cells #[.int .u8 0, .int .u8 0, .int .u8 0, .int .u8 0, .int .u8 0, .int .u8 0, .int .u8 0, .int .u8 (cN : Int)] 47 (0, 0))) (h : WL.heap[B]? = some (.cells (hashC s r0 r1 r2 r3 r4 r5 r6 r7 N) 49 (0, 0))) (j : Nat) (hj : j ≤ 7) :
    ∃ x0 x1 x2 x3 x4 x5 x6 : UInt8, [r0, r1, r2, r3, r4, r5, r6, r7].take j ++ List.replicate (7 - j) 0 = [x0, x1, x2, x3, x4, x5, x6] ∧
    (Builtin.copy_ #[25, 25] 3 #[.slice (some ⟨g, 0, none⟩) 8 8, .slice (some ⟨B, 4, none⟩) j 8]).run Try.prog WL = .ok (.int .i64 (j : Int)) (WL.setRow g #[.int .u8 (x0.toNat : Int), .int .u8 (x1.toNat : Int), .int .u8 (x2.toNat : Int), .int .u8 (x3.toNat : Int), .int .u8 (x4.toNat : Int), .int .u8 (x5.toNat : Int), .int .u8 (x6.toNat : Int), .int .u8 (cN : Int)]) := by
  unfold hashC bv at h
  obtain ⟨b0, b1, b2, b3, b4, b5, b6, b7, b8, b9, b10, b11, b12, bf⟩ := block_cells13 h
  have h8 : j = 0 ∨ j = 1 ∨ j = 2 ∨ j = 3 ∨ j = 4 ∨ j = 5 ∨ j = 6 ∨ j = 7 := by omega
  rcases h8 with rfl | rfl | rfl | rfl | rfl | rfl | rfl | rfl
  · refine ⟨0, 0, 0, 0, 0, 0, 0, rfl, ?_⟩
    rw [run_copy_none (P := Try.prog) WL 25 25 3 5 (some ⟨g, 0, none⟩) (some ⟨B, 4, none⟩) 8 8 0 8 Try.underlying25 (by kernel_rfl) rfl]
    exact congrArg _ (setRow_self WL g _ 47 (0, 0) zl).symm
  · refine ⟨r0, 0, 0, 0, 0, 0, 0, rfl, ?_⟩
    have c := run_copy_row (P := Try.prog) WL 25 25 3 5 g 0 8 8 ⟨B, 4, none⟩ 1 8 #[.int .u8 0, .int .u8 0, .int .u8 0, .int .u8 0, .int .u8 0, .int .u8 0, .int .u8 0, .int .u8 (cN : Int)] 47 [.int .u8 (r0.toNat : Int)] Try.underlying25 (by kernel_rfl) zl rfl
      (by intro i u hi; match i, hi with | 0, hi => (simp at hi; subst hi; exact b4) | i + 1, hi => simp at hi) (by simp) (by simp [Value.oneCell'])
    exact c
  · refine ⟨r0, r1, 0, 0, 0, 0, 0, rfl, ?_⟩
    have c := run_copy_row (P := Try.prog) WL 25 25 3 5 g 0 8 8 ⟨B, 4, none⟩ 2 8 #[.int .u8 0, .int .u8 0, .int .u8 0, .int .u8 0, .int .u8 0, .int .u8 0, .int .u8 0, .int .u8 (cN : Int)] 47 [.int .u8 (r0.toNat : Int), .int .u8 (r1.toNat : Int)] Try.underlying25 (by kernel_rfl) zl rfl
      (by intro i u hi; match i, hi with | 0, hi => (simp at hi; subst hi; exact b4) | 1, hi => (simp at hi; subst hi; exact b5) | i + 2, hi => simp at hi) (by simp) (by simp [Value.oneCell'])
    exact c
  · refine ⟨r0, r1, r2, 0, 0, 0, 0, rfl, ?_⟩
    have c := run_copy_row (P := Try.prog) WL 25 25 3 5 g 0 8 8 ⟨B, 4, none⟩ 3 8 #[.int .u8 0, .int .u8 0, .int .u8 0, .int .u8 0, .int .u8 0, .int .u8 0, .int .u8 0, .int .u8 (cN : Int)] 47 [.int .u8 (r0.toNat : Int), .int .u8 (r1.toNat : Int), .int .u8 (r2.toNat : Int)] Try.underlying25 (by kernel_rfl) zl rfl
      (by intro i u hi; match i, hi with | 0, hi => (simp at hi; subst hi; exact b4) | 1, hi => (simp at hi; subst hi; exact b5) | 2, hi => (simp at hi; subst hi; exact b6) | i + 3, hi => simp at hi) (by simp) (by simp [Value.oneCell'])
    exact c
  · refine ⟨r0, r1, r2, r3, 0, 0, 0, rfl, ?_⟩
    have c := run_copy_row (P := Try.prog) WL 25 25 3 5 g 0 8 8 ⟨B, 4, none⟩ 4 8 #[.int .u8 0, .int .u8 0, .int .u8 0, .int .u8 0, .int .u8 0, .int .u8 0, .int .u8 0, .int .u8 (cN : Int)] 47 [.int .u8 (r0.toNat : Int), .int .u8 (r1.toNat : Int), .int .u8 (r2.toNat : Int), .int .u8 (r3.toNat : Int)] Try.underlying25 (by kernel_rfl) zl rfl
      (by intro i u hi; match i, hi with | 0, hi => (simp at hi; subst hi; exact b4) | 1, hi => (simp at hi; subst hi; exact b5) | 2, hi => (simp at hi; subst hi; exact b6) | 3, hi => (simp at hi; subst hi; exact b7) | i + 4, hi => simp at hi) (by simp) (by simp [Value.oneCell'])
    exact c
  · refine ⟨r0, r1, r2, r3, r4, 0, 0, rfl, ?_⟩
    have c := run_copy_row (P := Try.prog) WL 25 25 3 5 g 0 8 8 ⟨B, 4, none⟩ 5 8 #[.int .u8 0, .int .u8 0, .int .u8 0, .int .u8 0, .int .u8 0, .int .u8 0, .int .u8 0, .int .u8 (cN : Int)] 47 [.int .u8 (r0.toNat : Int), .int .u8 (r1.toNat : Int), .int .u8 (r2.toNat : Int), .int .u8 (r3.toNat : Int), .int .u8 (r4.toNat : Int)] Try.underlying25 (by kernel_rfl) zl rfl
      (by intro i u hi; match i, hi with | 0, hi => (simp at hi; subst hi; exact b4) | 1, hi => (simp at hi; subst hi; exact b5) | 2, hi => (simp at hi; subst hi; exact b6) | 3, hi => (simp at hi; subst hi; exact b7) | 4, hi => (simp at hi; subst hi; exact b8) | i + 5, hi => simp at hi) (by simp) (by simp [Value.oneCell'])
    exact c
  · refine ⟨r0, r1, r2, r3, r4, r5, 0, rfl, ?_⟩
    have c := run_copy_row (P := Try.prog) WL 25 25 3 5 g 0 8 8 ⟨B, 4, none⟩ 6 8 #[.int .u8 0, .int .u8 0, .int .u8 0, .int .u8 0, .int .u8 0, .int .u8 0, .int .u8 0, .int .u8 (cN : Int)] 47 [.int .u8 (r0.toNat : Int), .int .u8 (r1.toNat : Int), .int .u8 (r2.toNat : Int), .int .u8 (r3.toNat : Int), .int .u8 (r4.toNat : Int), .int .u8 (r5.toNat : Int)] Try.underlying25 (by kernel_rfl) zl rfl
      (by intro i u hi; match i, hi with | 0, hi => (simp at hi; subst hi; exact b4) | 1, hi => (simp at hi; subst hi; exact b5) | 2, hi => (simp at hi; subst hi; exact b6) | 3, hi => (simp at hi; subst hi; exact b7) | 4, hi => (simp at hi; subst hi; exact b8) | 5, hi => (simp at hi; subst hi; exact b9) | i + 6, hi => simp at hi) (by simp) (by simp [Value.oneCell'])
    exact c
  · refine ⟨r0, r1, r2, r3, r4, r5, r6, rfl, ?_⟩
    have c := run_copy_row (P := Try.prog) WL 25 25 3 5 g 0 8 8 ⟨B, 4, none⟩ 7 8 #[.int .u8 0, .int .u8 0, .int .u8 0, .int .u8 0, .int .u8 0, .int .u8 0, .int .u8 0, .int .u8 (cN : Int)] 47 [.int .u8 (r0.toNat : Int), .int .u8 (r1.toNat : Int), .int .u8 (r2.toNat : Int), .int .u8 (r3.toNat : Int), .int .u8 (r4.toNat : Int), .int .u8 (r5.toNat : Int), .int .u8 (r6.toNat : Int)] Try.underlying25 (by kernel_rfl) zl rfl
      (by intro i u hi; match i, hi with | 0, hi => (simp at hi; subst hi; exact b4) | 1, hi => (simp at hi; subst hi; exact b5) | 2, hi => (simp at hi; subst hi; exact b6) | 3, hi => (simp at hi; subst hi; exact b7) | 4, hi => (simp at hi; subst hi; exact b8) | 5, hi => (simp at hi; subst hi; exact b9) | 6, hi => (simp at hi; subst hi; exact b10) | i + 7, hi => simp at hi) (by simp) (by simp [Value.oneCell'])
    exact c
theorem slice_rest0 (B : Nat) (w : World) : (Instr.sliceAt 47 (.pointer (some ⟨B, 4, none⟩)) none (some (.int .i64 0)) none).run Try.prog w = .ok (.slice (some ⟨B, 4, none⟩) 0 8) w := by kernel_rfl
theorem slice_rest1 (B : Nat) (w : World) : (Instr.sliceAt 47 (.pointer (some ⟨B, 4, none⟩)) none (some (.int .i64 1)) none).run Try.prog w = .ok (.slice (some ⟨B, 4, none⟩) 1 8) w := by kernel_rfl
theorem slice_rest2 (B : Nat) (w : World) : (Instr.sliceAt 47 (.pointer (some ⟨B, 4, none⟩)) none (some (.int .i64 2)) none).run Try.prog w = .ok (.slice (some ⟨B, 4, none⟩) 2 8) w := by kernel_rfl
theorem slice_rest3 (B : Nat) (w : World) : (Instr.sliceAt 47 (.pointer (some ⟨B, 4, none⟩)) none (some (.int .i64 3)) none).run Try.prog w = .ok (.slice (some ⟨B, 4, none⟩) 3 8) w := by kernel_rfl
theorem slice_rest4 (B : Nat) (w : World) : (Instr.sliceAt 47 (.pointer (some ⟨B, 4, none⟩)) none (some (.int .i64 4)) none).run Try.prog w = .ok (.slice (some ⟨B, 4, none⟩) 4 8) w := by kernel_rfl
theorem slice_rest5 (B : Nat) (w : World) : (Instr.sliceAt 47 (.pointer (some ⟨B, 4, none⟩)) none (some (.int .i64 5)) none).run Try.prog w = .ok (.slice (some ⟨B, 4, none⟩) 5 8) w := by kernel_rfl
theorem slice_rest6 (B : Nat) (w : World) : (Instr.sliceAt 47 (.pointer (some ⟨B, 4, none⟩)) none (some (.int .i64 6)) none).run Try.prog w = .ok (.slice (some ⟨B, 4, none⟩) 6 8) w := by kernel_rfl
theorem slice_rest7 (B : Nat) (w : World) : (Instr.sliceAt 47 (.pointer (some ⟨B, 4, none⟩)) none (some (.int .i64 7)) none).run Try.prog w = .ok (.slice (some ⟨B, 4, none⟩) 7 8) w := by kernel_rfl
theorem slice_rest (B j : Nat) (hj : j ≤ 7) (w : World) : (Instr.sliceAt 47 (.pointer (some ⟨B, 4, none⟩)) none (some (.int .i64 (j : Int))) none).run Try.prog w = .ok (.slice (some ⟨B, 4, none⟩) j 8) w := by
  have h8 : j = 0 ∨ j = 1 ∨ j = 2 ∨ j = 3 ∨ j = 4 ∨ j = 5 ∨ j = 6 ∨ j = 7 := by omega
  rcases h8 with rfl | rfl | rfl | rfl | rfl | rfl | rfl | rfl
  · exact slice_rest0 B w
  · exact slice_rest1 B w
  · exact slice_rest2 B w
  · exact slice_rest3 B w
  · exact slice_rest4 B w
  · exact slice_rest5 B w
  · exact slice_rest6 B w
  · exact slice_rest7 B w
set_option maxRecDepth 100000 in
set_option maxHeartbeats 2000000 in
theorem tag_any (B : Nat) (s : St) (hok : s.Ok) (r0 r1 r2 r3 r4 r5 r6 r7 : UInt8) (N : Nat) (hN : N ≤ 1000000) (w : World) (h : w.heap[B]? = some (.cells (hashC s r0 r1 r2 r3 r4 r5 r6 r7 (N : Int)) 49 (0, 0))) :
    Calls Try.prog 14 #[.pointer (some ⟨B, 0, none⟩)] w fun e w' => e = .returned (.int .u64 (tagN (s, [r0, r1, r2, r3, r4, r5, r6, r7]) N : Int)) ∧ Below w.heap.size w w' := by
  obtain ⟨j, ej⟩ : ∃ j, N % 8 = j := ⟨_, rfl⟩
  have hj7 : j ≤ 7 := by omega
  have hj3 : (N : Int).tmod 8 = (j : Int) := by rw [Int.tmod_eq_emod_of_nonneg (by omega)]; omega
  obtain ⟨cN, ecN⟩ : ∃ c, c = N % 256 := ⟨_, rfl⟩
  have hc : IntKind.u8.wrap (N : Int) = (cN : Int) := by simp [IntKind.wrap, IntKind.bits, IntKind.signed]; omega
  have hcb : bv (UInt8.ofNat (N % 256)) = .int .u8 (cN : Int) := by
    rw [bv, UInt8.toNat_ofNat', ecN]; congr 1; omega
  have hlt : cN < 256 := by omega
  have ltB := lt_of_block h
  have zl : (w.alloc (.cells #[.int .u8 0, .int .u8 0, .int .u8 0, .int .u8 0, .int .u8 0, .int .u8 0, .int .u8 0, .int .u8 (cN : Int)] 47)).drew.heap[w.heap.size]? = some (.cells #[.int .u8 0, .int .u8 0, .int .u8 0, .int .u8 0, .int .u8 0, .int .u8 0, .int .u8 0, .int .u8 (cN : Int)] 47 (0, 0)) := heap_alloc_new _ _
  obtain ⟨x0, x1, x2, x3, x4, x5, x6, hx, hcp⟩ := copy_rest (w.alloc (.cells #[.int .u8 0, .int .u8 0, .int .u8 0, .int .u8 0, .int .u8 0, .int .u8 0, .int .u8 0, .int .u8 (cN : Int)] 47)).drew w.heap.size B s r0 r1 r2 r3 r4 r5 r6 r7 N cN zl ((heap_alloc_old w _ ltB).trans h) j hj7
  have htag : tagN (s, [r0, r1, r2, r3, r4, r5, r6, r7]) N = endN (takeN s (le8 [x0, x1, x2, x3, x4, x5, x6, UInt8.ofNat (N % 256)])) := by
    unfold tagN lastW
    rw [ej, hx]
    rfl
  rw [htag]
  clear htag hx ecN
  have hm := le8_lt8 x0 x1 x2 x3 x4 x5 x6 (UInt8.ofNat (N % 256))
  have Tw := word_any x0 x1 x2 x3 x4 x5 x6 (UInt8.ofNat (N % 256))
  rw [hcb] at Tw
  clear hcb
  unfold bv at Tw
  obtain ⟨m, em⟩ : ∃ m, m = le8 [x0, x1, x2, x3, x4, x5, x6, UInt8.ofNat (N % 256)] := ⟨_, rfl⟩
  rw [← em] at Tw hm ⊢
  clear em
  have Tt := take_any s hok m hm
  have ok1 := take_ok s hok m hm
  obtain ⟨u, eu⟩ : ∃ u, u = takeN s m := ⟨_, rfl⟩
  rw [← eu] at Tt ok1 ⊢
  clear eu hm
  unfold endN
  have q1 := xor_is ok1.c (show (255 : Nat) < 18446744073709551616 by decide)
  have ok2 := ok_setC u ok1 (xorN u.c 255) (xor_lt ok1.c (by decide))
  obtain ⟨ua, ub, uc, ud⟩ := u
  simp only [] at q1 ok2 ⊢
  generalize xorN uc 255 = uc' at q1 ok2 ⊢
  have Tr := rounds_any _ ok2 4 (by decide)
  have ok3 := rounds_ok _ ok2 4
  generalize roundsN 4 ⟨ua, ub, uc', ud⟩ = v at Tr ok3 ⊢
  obtain ⟨va, vb, vc, vd⟩ := v
  have p1 := xor_is ok3.a ok3.b
  have p2 := xor_is (xor_lt ok3.a ok3.b) ok3.c
  have p3 := xor_is (xor_lt (xor_lt ok3.a ok3.b) ok3.c) ok3.d
  simp only [] at p1 p2 p3 ⊢
  generalize xorN va vb = y1 at p1 p2 p3 ⊢
  generalize xorN y1 vc = y2 at p2 p3 ⊢
  generalize xorN y2 vd = y3 at p3 ⊢
  unfold stV at Tt Tr
  simp only [Int.cast_ofNat_Int] at Tt Tr q1
  clear hok ok1 ok2 ok3
  unfold hashC bv at h
  obtain ⟨b0, b1, b2, b3, b4, b5, b6, b7, b8, b9, b10, b11, b12, bf⟩ := block_cells13 h
  clear bf
  have Bel := Below.refl w.heap.size w
  have hsl := slice_rest B j hj7
  go_enter Try.func14, Try.ntmps14
  go_wp2_with fail
  refine t_start 10 (by kernel_rfl) ?_
  refine t_take (i := 0) (d := (some 11)) (v := ?_) rfl rfl (by kernel_rfl) (fun _ _ _ h => h) (by rfl) (fun w' hb' => ?_) ?_
  rotate_left
  · (try go_simp); (try with_reducible rfl)
  try simp only [Act.put, List.setIfInBounds_toArray, List.set_cons_zero, List.set_cons_succ]
  refine t_take (i := 1) (d := (some 12)) (v := ?_) rfl rfl (by kernel_rfl) (fun _ _ _ h => h) (by rfl) (fun w' hb' => ?_) ?_
  rotate_left
  · (try go_simp); (try with_reducible rfl)
  try simp only [Act.put, List.setIfInBounds_toArray, List.set_cons_zero, List.set_cons_succ]
  refine t_take (i := 2) (d := (some 13)) (v := ?_) rfl rfl (by kernel_rfl) (fun _ _ _ h => h) (by rfl) (fun w' hb' => ?_) ?_
  rotate_left
  · (try go_simp); (try with_reducible rfl)
  try simp only [Act.put, List.setIfInBounds_toArray, List.set_cons_zero, List.set_cons_succ]
  refine t_take (i := 3) (d := (some 14)) (v := ?_) rfl rfl (by kernel_rfl) (fun _ _ _ h => h) (by rfl) (fun w' hb' => ?_) ?_
  rotate_left
  · (try go_simp); (try with_reducible rfl)
  try simp only [Act.put, List.setIfInBounds_toArray, List.set_cons_zero, List.set_cons_succ]
  refine t_take (i := 4) (d := (some 15)) (v := ?_) rfl rfl (by kernel_rfl) (fun _ _ _ h => h) (by rfl) (fun w' hb' => ?_) ?_
  rotate_left
  · (try go_simp); (try with_reducible rfl)
  try simp only [Act.put, List.setIfInBounds_toArray, List.set_cons_zero, List.set_cons_succ]
  refine t_take (i := 5) (d := (some 16)) (v := ?_) rfl rfl (by kernel_rfl) (fun _ _ _ h => h) (by rfl) (fun w' hb' => ?_) ?_
  rotate_left
  · (try go_simp); (try with_reducible rfl)
  try simp only [Act.put, List.setIfInBounds_toArray, List.set_cons_zero, List.set_cons_succ]
  refine t_take (i := 6) (d := (some 17)) (v := ?_) rfl rfl (by kernel_rfl) (fun _ _ _ h => h) (by rfl) (fun w' hb' => ?_) ?_
  rotate_left
  · (try go_simp); (try with_reducible rfl)
  try simp only [Act.put, List.setIfInBounds_toArray, List.set_cons_zero, List.set_cons_succ]
  refine t_take (i := 7) (d := (some 18)) (v := ?_) rfl rfl (by kernel_rfl) (fun _ _ _ h => h) (by rfl) (fun w' hb' => ?_) ?_
  rotate_left
  · have zz : w'.heap[B]? = some (.cells #[.int .u64 (s.a : Int), .int .u64 (s.b : Int), .int .u64 (s.c : Int), .int .u64 (s.d : Int), .int .u8 (r0.toNat : Int), .int .u8 (r1.toNat : Int), .int .u8 (r2.toNat : Int), .int .u8 (r3.toNat : Int), .int .u8 (r4.toNat : Int), .int .u8 (r5.toNat : Int), .int .u8 (r6.toNat : Int), .int .u8 (r7.toNat : Int), .int .i64 (N : Int)] 49 (0, 0)) := (hb'.block _ (by simp; omega)).trans ((heap_alloc_old w _ ltB).trans h); obtain ⟨c0, c1, c2, c3, c4, c5, c6, c7, c8, c9, c10, c11, c12, cf⟩ := block_cells13 zz; (try go_simp); (try with_reducible rfl)
  try simp only [Act.put, List.setIfInBounds_toArray, List.set_cons_zero, List.set_cons_succ]
  refine t_take (i := 8) (d := (some 19)) (v := ?_) rfl rfl (by kernel_rfl) (fun _ _ _ h => h) (by rfl) (fun w' hb' => ?_) ?_
  rotate_left
  · (try go_simp); (try with_reducible rfl)
  try simp only [Act.put, List.setIfInBounds_toArray, List.set_cons_zero, List.set_cons_succ]
  refine t_take (i := 9) (d := (some 20)) (v := ?_) rfl rfl (by kernel_rfl) (fun _ _ _ h => h) (by rfl) (fun w' hb' => ?_) ?_
  rotate_left
  · (try go_simp); (try with_reducible rfl)
  try simp only [Act.put, List.setIfInBounds_toArray, List.set_cons_zero, List.set_cons_succ]
  refine t_last (i := 10) rfl (by kernel_rfl) (by kernel_rfl) (by kernel_rfl) (by rfl) (fun K hK => ?_)
  go_simp; refine hK _ _ ?_; clear hK K
  obtain ⟨WC, hWC⟩ : ∃ WC, WC = (w.alloc (.cells #[.int .u8 0, .int .u8 0, .int .u8 0, .int .u8 0, .int .u8 0, .int .u8 0, .int .u8 0, .int .u8 (cN : Int)] 47)).drew.setRow w.heap.size #[.int .u8 (x0.toNat : Int), .int .u8 (x1.toNat : Int), .int .u8 (x2.toNat : Int), .int .u8 (x3.toNat : Int), .int .u8 (x4.toNat : Int), .int .u8 (x5.toNat : Int), .int .u8 (x6.toNat : Int), .int .u8 (cN : Int)] := ⟨_, rfl⟩
  rw [← hWC]
  have zl3 : WC.heap[w.heap.size]? = some (.cells #[.int .u8 (x0.toNat : Int), .int .u8 (x1.toNat : Int), .int .u8 (x2.toNat : Int), .int .u8 (x3.toNat : Int), .int .u8 (x4.toNat : Int), .int .u8 (x5.toNat : Int), .int .u8 (x6.toNat : Int), .int .u8 (cN : Int)] 47 (0, 0)) := by rw [hWC]; exact setRow_heap _ _ _ _ _ _ zl
  have zB3 : WC.heap[B]? = some (.cells #[.int .u64 (s.a : Int), .int .u64 (s.b : Int), .int .u64 (s.c : Int), .int .u64 (s.d : Int), .int .u8 (r0.toNat : Int), .int .u8 (r1.toNat : Int), .int .u8 (r2.toNat : Int), .int .u8 (r3.toNat : Int), .int .u8 (r4.toNat : Int), .int .u8 (r5.toNat : Int), .int .u8 (r6.toNat : Int), .int .u8 (r7.toNat : Int), .int .i64 (N : Int)] 49 (0, 0)) := by rw [hWC]; exact (setRow_other _ _ _ _ (by omega)).trans ((heap_alloc_old w _ ltB).trans h)
  have Bel : Below w.heap.size w WC := by rw [hWC]; exact below_setRow (by go_grown) (Nat.le_refl _) _
  have sz := Bel.size
  clear hWC zl hcp b0 b1 b2 b3 b4 b5 b6 b7 b8 b9 b10 b11 b12 h
  go_wp2_with fail
  have zB3 : WC.drew.heap[B]? = some (.cells #[.int .u64 (s.a : Int), .int .u64 (s.b : Int), .int .u64 (s.c : Int), .int .u64 (s.d : Int), .int .u8 (r0.toNat : Int), .int .u8 (r1.toNat : Int), .int .u8 (r2.toNat : Int), .int .u8 (r3.toNat : Int), .int .u8 (r4.toNat : Int), .int .u8 (r5.toNat : Int), .int .u8 (r6.toNat : Int), .int .u8 (r7.toNat : Int), .int .i64 (N : Int)] 49 (0, 0)) := zB3
  have zl3 : WC.drew.heap[w.heap.size]? = some (.cells #[.int .u8 (x0.toNat : Int), .int .u8 (x1.toNat : Int), .int .u8 (x2.toNat : Int), .int .u8 (x3.toNat : Int), .int .u8 (x4.toNat : Int), .int .u8 (x5.toNat : Int), .int .u8 (x6.toNat : Int), .int .u8 (cN : Int)] 47 (0, 0)) := zl3
  have Bel : Below w.heap.size w WC.drew := ⟨Bel.os, Bel.tape, Bel.output, Bel.size, Bel.block⟩
  refine t_start 8 (by kernel_rfl) ?_
  refine t_take (i := 0) (d := (some 22)) (v := ?_) rfl rfl (by kernel_rfl) (fun _ _ _ h => h) (by rfl) (fun w' hb' => ?_) ?_
  rotate_left
  · (try go_simp); (try with_reducible rfl)
  try simp only [Act.put, List.setIfInBounds_toArray, List.set_cons_zero, List.set_cons_succ]
  refine t_take (i := 1) (d := (some 23)) (v := ?_) rfl rfl (by kernel_rfl) (fun _ _ _ h => h) (by rfl) (fun w' hb' => ?_) ?_
  rotate_left
  · (try go_simp); (try with_reducible rfl)
  try simp only [Act.put, List.setIfInBounds_toArray, List.set_cons_zero, List.set_cons_succ]
  refine t_take (i := 2) (d := (some 24)) (v := ?_) rfl rfl (by kernel_rfl) (fun _ _ _ h => h) (by rfl) (fun w' hb' => ?_) ?_
  rotate_left
  · (try go_simp); (try with_reducible rfl)
  try simp only [Act.put, List.setIfInBounds_toArray, List.set_cons_zero, List.set_cons_succ]
  refine t_take (i := 3) (d := (some 25)) (v := ?_) rfl rfl (by kernel_rfl) (fun _ _ _ h => h) (by rfl) (fun w' hb' => ?_) ?_
  rotate_left
  · have zz : w'.heap[B]? = some (.cells #[.int .u64 (s.a : Int), .int .u64 (s.b : Int), .int .u64 (s.c : Int), .int .u64 (s.d : Int), .int .u8 (r0.toNat : Int), .int .u8 (r1.toNat : Int), .int .u8 (r2.toNat : Int), .int .u8 (r3.toNat : Int), .int .u8 (r4.toNat : Int), .int .u8 (r5.toNat : Int), .int .u8 (r6.toNat : Int), .int .u8 (r7.toNat : Int), .int .i64 (N : Int)] 49 (0, 0)) := (hb'.block _ (lt_of_block zB3)).trans zB3; obtain ⟨c0, c1, c2, c3, c4, c5, c6, c7, c8, c9, c10, c11, c12, cf⟩ := block_cells13 zz; (try go_simp); (try with_reducible rfl)
  try simp only [Act.put, List.setIfInBounds_toArray, List.set_cons_zero, List.set_cons_succ]
  refine t_take (i := 4) (d := (some 26)) (v := ?_) rfl rfl (by kernel_rfl) (fun _ _ _ h => h) (by rfl) (fun w' hb' => ?_) ?_
  rotate_left
  · have zz : w'.heap[w.heap.size]? = some (.cells #[.int .u8 (x0.toNat : Int), .int .u8 (x1.toNat : Int), .int .u8 (x2.toNat : Int), .int .u8 (x3.toNat : Int), .int .u8 (x4.toNat : Int), .int .u8 (x5.toNat : Int), .int .u8 (x6.toNat : Int), .int .u8 (cN : Int)] 47 (0, 0)) := (hb'.block _ (lt_of_block zl3)).trans zl3; obtain ⟨c0, c1, c2, c3, c4, c5, c6, c7, cf⟩ := block_cells8 zz; (try go_simp); (try with_reducible rfl)
  try simp only [Act.put, List.setIfInBounds_toArray, List.set_cons_zero, List.set_cons_succ]
  refine t_run2 (i := 5) (k := 7) rfl rfl (by kernel_rfl) (by kernel_rfl) (by rfl) (by rfl) (fun K hK => ?_) (fun K hK => ?_)
  · skip
    go_simp; refine (Tw _).mono ?_; rintro e w3 ⟨rfl, g⟩; refine hK _ _ ⟨g, ?_⟩; (try have z4 := (g.block _ (lt_of_block z4)).trans z4); have Bel : Below w.heap.size w w3 := chain Bel g; clear hK K g
    try simp only [Act.put, List.setIfInBounds_toArray, List.set_cons_zero, List.set_cons_succ]
    refine t_run2 (i := 6) (k := 7) rfl rfl (by kernel_rfl) (by kernel_rfl) (by rfl) (by rfl) (fun K hK => ?_) (fun K hK => ?_)
    · skip
      go_simp; refine (Tt _).mono ?_; rintro e w4 ⟨rfl, g⟩; refine hK _ _ ⟨g, ?_⟩; (try have z4 := (g.block _ (lt_of_block z4)).trans z4); have Bel : Below w.heap.size w w4 := chain Bel g; clear hK K g
      try simp only [Act.put, List.setIfInBounds_toArray, List.set_cons_zero, List.set_cons_succ]
      refine t_run (i := 7) rfl (by kernel_rfl) (by kernel_rfl) (by rfl) (fun K hK => ?_)
      go_simp; refine hK _ _ ⟨(Below.refl _ _).alloc (Nat.le_refl _) _, ?_⟩; clear hK K; obtain ⟨WA, hWA⟩ : ∃ WA, WA = World.alloc w4 (.cells #[.int .u64 0, .int .u64 0, .int .u64 0, .int .u64 0] 46) := ⟨_, rfl⟩; rw [← hWA]; have z4 : WA.heap[w4.heap.size]? = some (.cells #[.int .u64 0, .int .u64 0, .int .u64 0, .int .u64 0] 46 (0, 0)) := (by subst hWA; exact heap_alloc_new w4 _); have g4 : w.heap.size ≤ w4.heap.size := Bel.size; have Bel : Below w.heap.size w WA := (by subst hWA; exact Bel.alloc (Bel.size) _); generalize w4.heap.size = b4 at z4 g4 ⊢; clear hWA
      try simp only [Act.put, List.setIfInBounds_toArray, List.set_cons_zero, List.set_cons_succ]
      refine t_last (i := 8) rfl (by kernel_rfl) (by kernel_rfl) (by kernel_rfl) (by rfl) (fun K hK => ?_)
      obtain ⟨c0, c1, c2, c3, cf⟩ := block_cells4 z4; have e0 := cf 0; have e1 := cf 1; have e2 := cf 2; have e3 := cf 3; go_simp; refine hK _ _ ?_; clear hK K c0 c1 c2 c3 cf e0 e1 e2 e3
      obtain ⟨W5, hW5⟩ : ∃ W, W = ((((World.setCell WA ⟨b4, 0, none⟩ (.int .u64 (ua : Int))).setCell ⟨b4, 1, none⟩ (.int .u64 (ub : Int))).setCell ⟨b4, 2, none⟩ (.int .u64 (uc : Int))).setCell ⟨b4, 3, none⟩ (.int .u64 (ud : Int))) := ⟨_, rfl⟩
      rw [← hW5]
      have z4 : W5.heap[b4]? = some (.cells #[.int .u64 (ua : Int), .int .u64 (ub : Int), .int .u64 (uc : Int), .int .u64 (ud : Int)] 46 (0, 0)) := by rw [hW5]; exact set4_new z4
      have Bel : Below w.heap.size w W5 := by rw [hW5]; exact ((((Bel.setCell (p := ⟨b4, 0, none⟩) g4 _).setCell (p := ⟨b4, 1, none⟩) g4 _).setCell (p := ⟨b4, 2, none⟩) g4 _).setCell (p := ⟨b4, 3, none⟩) g4 _)
      clear hW5
      obtain ⟨c0, c1, c2, c3, cf⟩ := block_cells4 z4
      have e0 := cf 0
      have e1 := cf 1
      have e2 := cf 2
      have e3 := cf 3
      have l4 := lt_of_block z4
      have sB := Bel.size
      go_wp2_with fail
      refine (Tr _).mono ?_
      rintro e w6 ⟨rfl, g⟩
      have y := set_at (i := 2) (u := .int .u64 (uc' : Int)) z4
      simp only [List.setIfInBounds_toArray, List.set_cons_zero, List.set_cons_succ] at y
      have z4 : w6.heap[b4]? = some (.cells #[.int .u64 (ua : Int), .int .u64 (ub : Int), .int .u64 (uc' : Int), .int .u64 (ud : Int)] 46 (0, 0)) := (g.block _ (lt_of_block y)).trans y
      have Bel : Below w.heap.size w w6 := chain (Bel.setCell (p := ⟨b4, 2, none⟩) g4 _) g
      clear g y
      clear c0 c1 c2 c3 cf e0 e1 e2 e3 l4 sB
      obtain ⟨c0, c1, c2, c3, cf⟩ := block_cells4 z4
      have e0 := cf 0
      have e1 := cf 1
      have e2 := cf 2
      have e3 := cf 3
      have l4 := lt_of_block z4
      have sB := Bel.size
      go_wp2_with fail
      go_ret
      exact ⟨rfl, by go_grown⟩
    · skip
      go_simp; refine hK _ _ ⟨(Below.refl _ _).alloc (Nat.le_refl _) _, ?_⟩; clear hK K; obtain ⟨WA, hWA⟩ : ∃ WA, WA = World.alloc w3 (.cells #[.int .u64 0, .int .u64 0, .int .u64 0, .int .u64 0] 46) := ⟨_, rfl⟩; rw [← hWA]; have z4 : WA.heap[w3.heap.size]? = some (.cells #[.int .u64 0, .int .u64 0, .int .u64 0, .int .u64 0] 46 (0, 0)) := (by subst hWA; exact heap_alloc_new w3 _); have g4 : w.heap.size ≤ w3.heap.size := Bel.size; have Bel : Below w.heap.size w WA := (by subst hWA; exact Bel.alloc (Bel.size) _); generalize w3.heap.size = b4 at z4 g4 ⊢; clear hWA
      try simp only [Act.put, List.setIfInBounds_toArray, List.set_cons_zero, List.set_cons_succ]
      refine t_run (i := 6) rfl (by kernel_rfl) (by kernel_rfl) (by rfl) (fun K hK => ?_)
      go_simp; refine (Tt _).mono ?_; rintro e w4 ⟨rfl, g⟩; refine hK _ _ ⟨g, ?_⟩; (try have z4 := (g.block _ (lt_of_block z4)).trans z4); have Bel : Below w.heap.size w w4 := chain Bel g; clear hK K g
      try simp only [Act.put, List.setIfInBounds_toArray, List.set_cons_zero, List.set_cons_succ]
      refine t_last (i := 8) rfl (by kernel_rfl) (by kernel_rfl) (by kernel_rfl) (by rfl) (fun K hK => ?_)
      obtain ⟨c0, c1, c2, c3, cf⟩ := block_cells4 z4; have e0 := cf 0; have e1 := cf 1; have e2 := cf 2; have e3 := cf 3; go_simp; refine hK _ _ ?_; clear hK K c0 c1 c2 c3 cf e0 e1 e2 e3
      obtain ⟨W5, hW5⟩ : ∃ W, W = ((((World.setCell w4 ⟨b4, 0, none⟩ (.int .u64 (ua : Int))).setCell ⟨b4, 1, none⟩ (.int .u64 (ub : Int))).setCell ⟨b4, 2, none⟩ (.int .u64 (uc : Int))).setCell ⟨b4, 3, none⟩ (.int .u64 (ud : Int))) := ⟨_, rfl⟩
      rw [← hW5]
      have z4 : W5.heap[b4]? = some (.cells #[.int .u64 (ua : Int), .int .u64 (ub : Int), .int .u64 (uc : Int), .int .u64 (ud : Int)] 46 (0, 0)) := by rw [hW5]; exact set4_new z4
      have Bel : Below w.heap.size w W5 := by rw [hW5]; exact ((((Bel.setCell (p := ⟨b4, 0, none⟩) g4 _).setCell (p := ⟨b4, 1, none⟩) g4 _).setCell (p := ⟨b4, 2, none⟩) g4 _).setCell (p := ⟨b4, 3, none⟩) g4 _)
      clear hW5
      obtain ⟨c0, c1, c2, c3, cf⟩ := block_cells4 z4
      have e0 := cf 0
      have e1 := cf 1
      have e2 := cf 2
      have e3 := cf 3
      have l4 := lt_of_block z4
      have sB := Bel.size
      go_wp2_with fail
      refine (Tr _).mono ?_
      rintro e w6 ⟨rfl, g⟩
      have y := set_at (i := 2) (u := .int .u64 (uc' : Int)) z4
      simp only [List.setIfInBounds_toArray, List.set_cons_zero, List.set_cons_succ] at y
      have z4 : w6.heap[b4]? = some (.cells #[.int .u64 (ua : Int), .int .u64 (ub : Int), .int .u64 (uc' : Int), .int .u64 (ud : Int)] 46 (0, 0)) := (g.block _ (lt_of_block y)).trans y
      have Bel : Below w.heap.size w w6 := chain (Bel.setCell (p := ⟨b4, 2, none⟩) g4 _) g
      clear g y
      clear c0 c1 c2 c3 cf e0 e1 e2 e3 l4 sB
      obtain ⟨c0, c1, c2, c3, cf⟩ := block_cells4 z4
      have e0 := cf 0
      have e1 := cf 1
      have e2 := cf 2
      have e3 := cf 3
      have l4 := lt_of_block z4
      have sB := Bel.size
      go_wp2_with fail
      go_ret
      exact ⟨rfl, by go_grown⟩
  · skip
    go_simp; refine hK _ _ ⟨(Below.refl _ _).alloc (Nat.le_refl _) _, ?_⟩; clear hK K; obtain ⟨WA, hWA⟩ : ∃ WA, WA = World.drew (World.alloc WC (.cells #[.int .u64 0, .int .u64 0, .int .u64 0, .int .u64 0] 46)) := ⟨_, rfl⟩; rw [← hWA]; have z4 : WA.heap[WC.heap.size]? = some (.cells #[.int .u64 0, .int .u64 0, .int .u64 0, .int .u64 0] 46 (0, 0)) := (by subst hWA; exact heap_alloc_new WC _); have g4 : w.heap.size ≤ WC.heap.size := Bel.size; have Bel : Below w.heap.size w WA := (by subst hWA; exact Bel.alloc (Bel.size) _); generalize WC.heap.size = b4 at z4 g4 ⊢; clear hWA
    try simp only [Act.put, List.setIfInBounds_toArray, List.set_cons_zero, List.set_cons_succ]
    refine t_run (i := 5) rfl (by kernel_rfl) (by kernel_rfl) (by rfl) (fun K hK => ?_)
    go_simp; refine (Tw _).mono ?_; rintro e w3 ⟨rfl, g⟩; refine hK _ _ ⟨g, ?_⟩; (try have z4 := (g.block _ (lt_of_block z4)).trans z4); have Bel : Below w.heap.size w w3 := chain Bel g; clear hK K g
    try simp only [Act.put, List.setIfInBounds_toArray, List.set_cons_zero, List.set_cons_succ]
    refine t_run (i := 6) rfl (by kernel_rfl) (by kernel_rfl) (by rfl) (fun K hK => ?_)
    go_simp; refine (Tt _).mono ?_; rintro e w4 ⟨rfl, g⟩; refine hK _ _ ⟨g, ?_⟩; (try have z4 := (g.block _ (lt_of_block z4)).trans z4); have Bel : Below w.heap.size w w4 := chain Bel g; clear hK K g
    try simp only [Act.put, List.setIfInBounds_toArray, List.set_cons_zero, List.set_cons_succ]
    refine t_last (i := 8) rfl (by kernel_rfl) (by kernel_rfl) (by kernel_rfl) (by rfl) (fun K hK => ?_)
    obtain ⟨c0, c1, c2, c3, cf⟩ := block_cells4 z4; have e0 := cf 0; have e1 := cf 1; have e2 := cf 2; have e3 := cf 3; go_simp; refine hK _ _ ?_; clear hK K c0 c1 c2 c3 cf e0 e1 e2 e3
    obtain ⟨W5, hW5⟩ : ∃ W, W = ((((World.setCell w4 ⟨b4, 0, none⟩ (.int .u64 (ua : Int))).setCell ⟨b4, 1, none⟩ (.int .u64 (ub : Int))).setCell ⟨b4, 2, none⟩ (.int .u64 (uc : Int))).setCell ⟨b4, 3, none⟩ (.int .u64 (ud : Int))) := ⟨_, rfl⟩
    rw [← hW5]
    have z4 : W5.heap[b4]? = some (.cells #[.int .u64 (ua : Int), .int .u64 (ub : Int), .int .u64 (uc : Int), .int .u64 (ud : Int)] 46 (0, 0)) := by rw [hW5]; exact set4_new z4
    have Bel : Below w.heap.size w W5 := by rw [hW5]; exact ((((Bel.setCell (p := ⟨b4, 0, none⟩) g4 _).setCell (p := ⟨b4, 1, none⟩) g4 _).setCell (p := ⟨b4, 2, none⟩) g4 _).setCell (p := ⟨b4, 3, none⟩) g4 _)
    clear hW5
    obtain ⟨c0, c1, c2, c3, cf⟩ := block_cells4 z4
    have e0 := cf 0
    have e1 := cf 1
    have e2 := cf 2
    have e3 := cf 3
    have l4 := lt_of_block z4
    have sB := Bel.size
    go_wp2_with fail
    refine (Tr _).mono ?_
    rintro e w6 ⟨rfl, g⟩
    have y := set_at (i := 2) (u := .int .u64 (uc' : Int)) z4
    simp only [List.setIfInBounds_toArray, List.set_cons_zero, List.set_cons_succ] at y
    have z4 : w6.heap[b4]? = some (.cells #[.int .u64 (ua : Int), .int .u64 (ub : Int), .int .u64 (uc' : Int), .int .u64 (ud : Int)] 46 (0, 0)) := (g.block _ (lt_of_block y)).trans y
    have Bel : Below w.heap.size w w6 := chain (Bel.setCell (p := ⟨b4, 2, none⟩) g4 _) g
    clear g y
    clear c0 c1 c2 c3 cf e0 e1 e2 e3 l4 sB
    obtain ⟨c0, c1, c2, c3, cf⟩ := block_cells4 z4
    have e0 := cf 0
    have e1 := cf 1
    have e2 := cf 2
    have e3 := cf 3
    have l4 := lt_of_block z4
    have sB := Bel.size
    go_wp2_with fail
    go_ret
    exact ⟨rfl, by go_grown⟩
end Go.Proofs.Ytfejjmodkjpmfaa
