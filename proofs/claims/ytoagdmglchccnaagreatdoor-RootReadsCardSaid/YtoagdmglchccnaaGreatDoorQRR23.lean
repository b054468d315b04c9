/- Leaves: what an item's bytes are read as. Written by wip/tools/gen9y.py. -/
import Derived.Test.YtoagdmglchccnaaGreatDoorQRR17
import Derived.Test.YtoagdmglchccnaaGreatDoorQRR18
import Derived.Test.YtoagdmglchccnaaGreatDoorQRR22
namespace Go.Proofs.YtoagdmglchccnaaGreatDoor
open Go Go.RowKit
set_option linter.unusedVariables false
set_option linter.unusedSimpArgs false
/-- What bytes are read as: an item (vf makes its version of the number), how many of them, an error's number. -/
def cutIL (vf : Nat → Int) (l : List UInt8) : It × Nat × Nat :=
  match cutTextL l with
  | (k, n, e) => if e ≠ 0 then (⟨[], ⟨0, 0, []⟩, 0⟩, 0, e) else
    match V7.cutVL (l.drop n) with
    | ((a, b, s), m, e) => if e ≠ 0 then (⟨[], ⟨0, 0, []⟩, 0⟩, 0, e) else
      match cutL (l.drop (n + m)) with
      | (x, o, e) => if e ≠ 0 then (⟨[], ⟨0, 0, []⟩, 0⟩, 0, e) else (⟨k, ⟨a, b, s⟩, vf x⟩, n + m + o, 0)
theorem cutIL_1 {vf : Nat → Int} {l k : List UInt8} {n e : Nat} (h : cutTextL l = (k, n, e)) (he : e ≠ 0) : cutIL vf l = (⟨[], ⟨0, 0, []⟩, 0⟩, 0, e) := by
  unfold cutIL; rw [h]; simp [he]
theorem cutIL_2 {vf : Nat → Int} {l k s : List UInt8} {n m e : Nat} {a b : Int} (h : cutTextL l = (k, n, 0)) (h2 : V7.cutVL (l.drop n) = ((a, b, s), m, e)) (he : e ≠ 0) : cutIL vf l = (⟨[], ⟨0, 0, []⟩, 0⟩, 0, e) := by
  unfold cutIL; rw [h]; simp [h2, he]
theorem cutIL_3 {vf : Nat → Int} {l k s : List UInt8} {n m x o e : Nat} {a b : Int} (h : cutTextL l = (k, n, 0)) (h2 : V7.cutVL (l.drop n) = ((a, b, s), m, 0)) (h3 : cutL (l.drop (n + m)) = (x, o, e)) (he : e ≠ 0) : cutIL vf l = (⟨[], ⟨0, 0, []⟩, 0⟩, 0, e) := by
  unfold cutIL; rw [h]; simp [h2, h3, he]
theorem cutIL_4 {vf : Nat → Int} {l k s : List UInt8} {n m x o : Nat} {a b : Int} (h : cutTextL l = (k, n, 0)) (h2 : V7.cutVL (l.drop n) = ((a, b, s), m, 0)) (h3 : cutL (l.drop (n + m)) = (x, o, 0)) : cutIL vf l = (⟨k, ⟨a, b, s⟩, vf x⟩, n + m + o, 0) := by
  unfold cutIL; rw [h]; simp [h2, h3]
theorem cutVL_err {l s : List UInt8} {a b : Int} {m e : Nat} (h : V7.cutVL l = ((a, b, s), m, e)) (he : e ≠ 0) : a = 0 ∧ b = 0 ∧ s = [] ∧ m = 0 := by
  obtain ⟨h1, h2⟩ := (V7.cutVL_facts h).2 he
  simp only [Prod.mk.injEq] at h1
  exact ⟨h1.1, h1.2.1, h1.2.2, h2⟩
theorem cutVL_len {l s : List UInt8} {a b : Int} {m e : Nat} (h : V7.cutVL l = ((a, b, s), m, e)) : m ≤ l.length ∧ m ≤ 75 ∧ s.length ≤ 64 ∧ I64 b := by
  by_cases he : e = 0
  · obtain ⟨h1, h2, h3, h4, h5, h6⟩ := (V7.cutVL_facts h).1 he
    have h7 := encL_max ⟨a, b, s⟩
    rw [h4, List.length_take] at h7
    refine ⟨h3, by omega, ?_, h5⟩
    simp only [V7.mayB, decide_eq_true_eq] at h1
    rcases h1 with ⟨_, _, rfl⟩ | ⟨_, _, rfl⟩ | ⟨_, rfl⟩ | ⟨_, _, h⟩
    · simp
    · simp
    · simp
    · exact h
  · obtain ⟨h1, h2, h3, h4⟩ := cutVL_err h he
    subst h1 h2 h3 h4
    exact ⟨by omega, by omega, by simp, ⟨by decide, by decide⟩⟩
theorem wrap64_of_u64 (x : Nat) : IntKind.i64.wrap (x : Int) = wrap64 (x : Int) := by simp only [IntKind.wrap_i64, wrap64]
set_option maxRecDepth 100000 in
set_option maxHeartbeats 1000000 in
theorem cutI_1 (v : Value) (l : List UInt8) (w : World) (h : Rd w v l) (e : Nat) (he : ((e : Int) != 0) = true)
    (CT : ∀ v w, Rd w v l → Calls Tryz.prog 148 #[v] w fun x w' => x = .returned (.tuple #[.string (str []), .int .i64 0, .int .i64 (e : Int)]) ∧ w = w') :
    Calls Tryz.prog 124 #[v] w fun e' w' => e' = .returned (.tuple #[.agg #[.string (str []), .int .i64 0, .int .i64 0, .string (str []), .int .i64 0], .int .i64 0, .int .i64 (e : Int)]) ∧ Below w.heap.size w w' := by
  have q0 := heap_alloc_new w (.cells #[.string ⟨#[]⟩, .int .i64 0, .int .i64 0, .string ⟨#[]⟩, .int .i64 0] 154)
  have B0 := (Below.refl w.heap.size w).alloc (Nat.le_refl _) (.cells #[.string ⟨#[]⟩, .int .i64 0, .int .i64 0, .string ⟨#[]⟩, .int .i64 0] 154)
  have HRD := Lib.hid h
  have hmax : l.length ≤ maxLen := by obtain ⟨_, _, _, h3, h4, _⟩ := h; omega
  obtain ⟨ao, cap, rfl, hlc, hcm⟩ : ∃ ao cap, v = .slice ao l.length cap ∧ l.length ≤ cap ∧ cap ≤ maxLen := by obtain ⟨ao, cap, h1, h3, h4, _⟩ := h; exact ⟨ao, cap, h1, h3, h4⟩
  unfold maxLen at hcm hmax
  obtain ⟨i0, hi, hz0, hz1, hz2⟩ := info_parts u8info
  have R0 := Lib.hid (h.below B0 (Nat.le_refl _))
  have CTH := Lib.hid CT
  clear h CT
  go_enter Tryz.func124, Tryz.ntmps124
  go_wp2_with fail
  refine (CTH.out _ _ R0.out).mono ?_
  rintro e1 w1 ⟨rfl, rfl⟩
  obtain ⟨d0, d1, d2, d3, d4, dz⟩ := block_cells5 q0
  go_wp2_with fail
  obtain ⟨r0, r1, r2, r3, r4, bel9⟩ := set5 (.string (str [])) (.int .i64 0) (.int .i64 0) (.string (str [])) (.int .i64 0) q0 B0 (Nat.le_refl _)
  exact bodyPost_ret (v := .tuple #[.agg #[.string (str []), .int .i64 0, .int .i64 0, .string (str []), .int .i64 0], .int .i64 0, .int .i64 (e : Int)]) (by simp [results, Tryz.results124, go_sem, r0, r1, r2, r3, r4, str_e]) rfl ⟨rfl, by first | exact bel9 | exact B0⟩
set_option maxRecDepth 100000 in
set_option maxHeartbeats 1000000 in
theorem cutI_2 (v : Value) (l : List UInt8) (w : World) (h : Rd w v l) (k : List UInt8) (n e : Nat) (hn : n ≤ 300) (hnl : n ≤ l.length) (he : ((e : Int) != 0) = true)
    (CT : ∀ v w, Rd w v l → Calls Tryz.prog 148 #[v] w fun x w' => x = .returned (.tuple #[.string (str k), .int .i64 (n : Int), .int .i64 0]) ∧ w = w')
    (CV : ∀ v w, Rd w v (l.drop n) → Calls Tryz.prog 149 #[v] w fun x w' => x = .returned (.tuple #[.agg #[.int .i64 0, .int .i64 0, .string (str [])], .int .i64 0, .int .i64 (e : Int)]) ∧ Below w.heap.size w w') :
    Calls Tryz.prog 124 #[v] w fun e' w' => e' = .returned (.tuple #[.agg #[.string (str []), .int .i64 0, .int .i64 0, .string (str []), .int .i64 0], .int .i64 0, .int .i64 (e : Int)]) ∧ Below w.heap.size w w' := by
  have q0 := heap_alloc_new w (.cells #[.string ⟨#[]⟩, .int .i64 0, .int .i64 0, .string ⟨#[]⟩, .int .i64 0] 154)
  have B0 := (Below.refl w.heap.size w).alloc (Nat.le_refl _) (.cells #[.string ⟨#[]⟩, .int .i64 0, .int .i64 0, .string ⟨#[]⟩, .int .i64 0] 154)
  have HRD := Lib.hid h
  have hmax : l.length ≤ maxLen := by obtain ⟨_, _, _, h3, h4, _⟩ := h; omega
  obtain ⟨ao, cap, rfl, hlc, hcm⟩ : ∃ ao cap, v = .slice ao l.length cap ∧ l.length ≤ cap ∧ cap ≤ maxLen := by obtain ⟨ao, cap, h1, h3, h4, _⟩ := h; exact ⟨ao, cap, h1, h3, h4⟩
  unfold maxLen at hcm hmax
  obtain ⟨i0, hi, hz0, hz1, hz2⟩ := info_parts u8info
  have R0 := Lib.hid (h.below B0 (Nat.le_refl _))
  have CTH := Lib.hid CT
  clear h CT
  have CVH := Lib.hid CV
  clear CV
  go_enter Tryz.func124, Tryz.ntmps124
  go_wp2_with fail
  refine (CTH.out _ _ R0.out).mono ?_
  rintro e1 w1 ⟨rfl, rfl⟩
  go_wp2_with (with_reducible refine V7.wpList_slice_from rfl 115 5 _ _ rfl i0 Tryz.underlying115 hi hz1 _ _ _ l rfl R0.out _ _ rfl n rfl (by omega) ?_; intro ao2 cap2 hr2)
  refine (CVH.out _ _ hr2).mono ?_
  rintro e2 w2 ⟨rfl, g2⟩
  have q2 := (g2.block _ (lt_of_block q0)).trans q0
  have B2 := chain B0 g2
  have q3 := (heap_alloc_old w2 (.cells #[.int .i64 0, .int .i64 0, .string (str [])] 145) (lt_of_block q2)).trans q2
  have B3 := B2.alloc B2.size (.cells #[.int .i64 0, .int .i64 0, .string (str [])] 145)
  have R3 := Lib.hid (HRD.out.below B3 (Nat.le_refl _))
  clear g2 hr2
  obtain ⟨d0, d1, d2, d3, d4, dz⟩ := block_cells5 q3
  go_wp2_with fail
  obtain ⟨r0, r1, r2, r3, r4, bel9⟩ := set5 (.string (str [])) (.int .i64 0) (.int .i64 0) (.string (str [])) (.int .i64 0) q3 B3 (Nat.le_refl _)
  exact bodyPost_ret (v := .tuple #[.agg #[.string (str []), .int .i64 0, .int .i64 0, .string (str []), .int .i64 0], .int .i64 0, .int .i64 (e : Int)]) (by simp [results, Tryz.results124, go_sem, r0, r1, r2, r3, r4, str_e]) rfl ⟨rfl, by first | exact bel9 | exact B0⟩
set_option maxRecDepth 100000 in
set_option maxHeartbeats 1000000 in
theorem cutI_3 (v : Value) (l : List UInt8) (w : World) (h : Rd w v l) (k s : List UInt8) (a b : Int) (n m x o e : Nat) (hn : n ≤ 300) (hm : m ≤ 300) (hnl : n + m ≤ l.length) (he : ((e : Int) != 0) = true)
    (CT : ∀ v w, Rd w v l → Calls Tryz.prog 148 #[v] w fun x w' => x = .returned (.tuple #[.string (str k), .int .i64 (n : Int), .int .i64 0]) ∧ w = w')
    (CV : ∀ v w, Rd w v (l.drop n) → Calls Tryz.prog 149 #[v] w fun x w' => x = .returned (.tuple #[.agg #[.int .i64 a, .int .i64 b, .string (str s)], .int .i64 (m : Int), .int .i64 0]) ∧ Below w.heap.size w w')
    (CN : ∀ v w, Rd w v (l.drop (n + m)) → Calls Tryz.prog 150 #[v] w fun y w' => y = .returned (.tuple #[.int .u64 (x : Int), .int .i64 (o : Int), .int .i64 (e : Int)]) ∧ w = w') :
    Calls Tryz.prog 124 #[v] w fun e' w' => e' = .returned (.tuple #[.agg #[.string (str []), .int .i64 0, .int .i64 0, .string (str []), .int .i64 0], .int .i64 0, .int .i64 (e : Int)]) ∧ Below w.heap.size w w' := by
  have q0 := heap_alloc_new w (.cells #[.string ⟨#[]⟩, .int .i64 0, .int .i64 0, .string ⟨#[]⟩, .int .i64 0] 154)
  have B0 := (Below.refl w.heap.size w).alloc (Nat.le_refl _) (.cells #[.string ⟨#[]⟩, .int .i64 0, .int .i64 0, .string ⟨#[]⟩, .int .i64 0] 154)
  have HRD := Lib.hid h
  have hmax : l.length ≤ maxLen := by obtain ⟨_, _, _, h3, h4, _⟩ := h; omega
  obtain ⟨ao, cap, rfl, hlc, hcm⟩ : ∃ ao cap, v = .slice ao l.length cap ∧ l.length ≤ cap ∧ cap ≤ maxLen := by obtain ⟨ao, cap, h1, h3, h4, _⟩ := h; exact ⟨ao, cap, h1, h3, h4⟩
  unfold maxLen at hcm hmax
  obtain ⟨i0, hi, hz0, hz1, hz2⟩ := info_parts u8info
  have R0 := Lib.hid (h.below B0 (Nat.le_refl _))
  have CTH := Lib.hid CT
  clear h CT
  have CVH := Lib.hid CV
  clear CV
  have CNH := Lib.hid CN
  clear CN
  go_enter Tryz.func124, Tryz.ntmps124
  go_wp2_with fail
  refine (CTH.out _ _ R0.out).mono ?_
  rintro e1 w1 ⟨rfl, rfl⟩
  go_wp2_with (with_reducible refine V7.wpList_slice_from rfl 115 5 _ _ rfl i0 Tryz.underlying115 hi hz1 _ _ _ l rfl R0.out _ _ rfl n rfl (by omega) ?_; intro ao2 cap2 hr2)
  refine (CVH.out _ _ hr2).mono ?_
  rintro e2 w2 ⟨rfl, g2⟩
  have q2 := (g2.block _ (lt_of_block q0)).trans q0
  have B2 := chain B0 g2
  have q3 := (heap_alloc_old w2 (.cells #[.int .i64 a, .int .i64 b, .string (str s)] 145) (lt_of_block q2)).trans q2
  have B3 := B2.alloc B2.size (.cells #[.int .i64 a, .int .i64 b, .string (str s)] 145)
  have R3 := Lib.hid (HRD.out.below B3 (Nat.le_refl _))
  clear g2 hr2
  have sm : IntKind.i64.wrap ((n : Int) + (m : Int)) = ((n + m : Nat) : Int) := by rw [IntKind.wrap_i64]; omega
  go_wp2_with (with_reducible refine V7.wpList_slice_from rfl 115 5 _ _ rfl i0 Tryz.underlying115 hi hz1 _ _ _ l rfl R3.out _ _ rfl (n + m) rfl (by omega) ?_; intro ao4 cap4 hr4)
  refine (CNH.out _ _ hr4).mono ?_
  rintro e4 w4 ⟨rfl, rfl⟩
  clear hr4
  obtain ⟨d0, d1, d2, d3, d4, dz⟩ := block_cells5 q3
  go_wp2_with fail
  obtain ⟨r0, r1, r2, r3, r4, bel9⟩ := set5 (.string (str [])) (.int .i64 0) (.int .i64 0) (.string (str [])) (.int .i64 0) q3 B3 (Nat.le_refl _)
  exact bodyPost_ret (v := .tuple #[.agg #[.string (str []), .int .i64 0, .int .i64 0, .string (str []), .int .i64 0], .int .i64 0, .int .i64 (e : Int)]) (by simp [results, Tryz.results124, go_sem, r0, r1, r2, r3, r4, str_e]) rfl ⟨rfl, by first | exact bel9 | exact B0⟩
set_option maxRecDepth 100000 in
set_option maxHeartbeats 1000000 in
theorem cutI_4 (v : Value) (l : List UInt8) (w : World) (h : Rd w v l) (k s : List UInt8) (a b : Int) (n m x o : Nat) (hn : n ≤ 300) (hm : m ≤ 300) (ho : o ≤ 300) (hnl : n + m ≤ l.length)
    (CT : ∀ v w, Rd w v l → Calls Tryz.prog 148 #[v] w fun x w' => x = .returned (.tuple #[.string (str k), .int .i64 (n : Int), .int .i64 0]) ∧ w = w')
    (CV : ∀ v w, Rd w v (l.drop n) → Calls Tryz.prog 149 #[v] w fun x w' => x = .returned (.tuple #[.agg #[.int .i64 a, .int .i64 b, .string (str s)], .int .i64 (m : Int), .int .i64 0]) ∧ Below w.heap.size w w')
    (CN : ∀ v w, Rd w v (l.drop (n + m)) → Calls Tryz.prog 150 #[v] w fun y w' => y = .returned (.tuple #[.int .u64 (x : Int), .int .i64 (o : Int), .int .i64 0]) ∧ w = w') :
    Calls Tryz.prog 124 #[v] w fun e' w' => e' = .returned (.tuple #[.agg #[.string (str k), .int .i64 a, .int .i64 b, .string (str s), .int .i64 (wrap64 (x : Int))], .int .i64 ((n + m + o : Nat) : Int), .int .i64 0]) ∧ Below w.heap.size w w' := by
  have q0 := heap_alloc_new w (.cells #[.string ⟨#[]⟩, .int .i64 0, .int .i64 0, .string ⟨#[]⟩, .int .i64 0] 154)
  have B0 := (Below.refl w.heap.size w).alloc (Nat.le_refl _) (.cells #[.string ⟨#[]⟩, .int .i64 0, .int .i64 0, .string ⟨#[]⟩, .int .i64 0] 154)
  have HRD := Lib.hid h
  have hmax : l.length ≤ maxLen := by obtain ⟨_, _, _, h3, h4, _⟩ := h; omega
  obtain ⟨ao, cap, rfl, hlc, hcm⟩ : ∃ ao cap, v = .slice ao l.length cap ∧ l.length ≤ cap ∧ cap ≤ maxLen := by obtain ⟨ao, cap, h1, h3, h4, _⟩ := h; exact ⟨ao, cap, h1, h3, h4⟩
  unfold maxLen at hcm hmax
  obtain ⟨i0, hi, hz0, hz1, hz2⟩ := info_parts u8info
  have R0 := Lib.hid (h.below B0 (Nat.le_refl _))
  have CTH := Lib.hid CT
  clear h CT
  have CVH := Lib.hid CV
  clear CV
  have CNH := Lib.hid CN
  clear CN
  go_enter Tryz.func124, Tryz.ntmps124
  go_wp2_with fail
  refine (CTH.out _ _ R0.out).mono ?_
  rintro e1 w1 ⟨rfl, rfl⟩
  go_wp2_with (with_reducible refine V7.wpList_slice_from rfl 115 5 _ _ rfl i0 Tryz.underlying115 hi hz1 _ _ _ l rfl R0.out _ _ rfl n rfl (by omega) ?_; intro ao2 cap2 hr2)
  refine (CVH.out _ _ hr2).mono ?_
  rintro e2 w2 ⟨rfl, g2⟩
  have q2 := (g2.block _ (lt_of_block q0)).trans q0
  have B2 := chain B0 g2
  have q3 := (heap_alloc_old w2 (.cells #[.int .i64 a, .int .i64 b, .string (str s)] 145) (lt_of_block q2)).trans q2
  have B3 := B2.alloc B2.size (.cells #[.int .i64 a, .int .i64 b, .string (str s)] 145)
  have R3 := Lib.hid (HRD.out.below B3 (Nat.le_refl _))
  clear g2 hr2
  have sm : IntKind.i64.wrap ((n : Int) + (m : Int)) = ((n + m : Nat) : Int) := by rw [IntKind.wrap_i64]; omega
  go_wp2_with (with_reducible refine V7.wpList_slice_from rfl 115 5 _ _ rfl i0 Tryz.underlying115 hi hz1 _ _ _ l rfl R3.out _ _ rfl (n + m) rfl (by omega) ?_; intro ao4 cap4 hr4)
  refine (CNH.out _ _ hr4).mono ?_
  rintro e4 w4 ⟨rfl, rfl⟩
  clear hr4
  obtain ⟨d0, d1, d2, d3, d4, dz⟩ := block_cells5 q3
  have vx := wrap64_of_u64 x
  have sm2 : IntKind.i64.wrap (((n + m : Nat) : Int) + (o : Int)) = ((n + m + o : Nat) : Int) := by rw [IntKind.wrap_i64]; omega
  go_wp2_with fail
  obtain ⟨r0, r1, r2, r3, r4, bel9⟩ := set5 (.string (str k)) (.int .i64 a) (.int .i64 b) (.string (str s)) (.int .i64 (wrap64 (x : Int))) q3 B3 (Nat.le_refl _)
  exact bodyPost_ret (v := .tuple #[.agg #[.string (str k), .int .i64 a, .int .i64 b, .string (str s), .int .i64 (wrap64 (x : Int))], .int .i64 ((n + m + o : Nat) : Int), .int .i64 0]) (by simp [results, Tryz.results124, go_sem, r0, r1, r2, r3, r4, str_e]) rfl ⟨rfl, by first | exact bel9 | exact B0⟩
theorem cutI_any (v : Value) (l : List UInt8) (w : World) (h : Rd w v l) :
    Calls Tryz.prog 124 #[v] w fun e w' => e = .returned (.tuple #[itV (cutIL (fun x => wrap64 (x : Int)) l).1, .int .i64 ((cutIL (fun x => wrap64 (x : Int)) l).2.1 : Int), .int .i64 ((cutIL (fun x => wrap64 (x : Int)) l).2.2 : Int)]) ∧ Below w.heap.size w w' := by
  obtain ⟨k, n, e, h1⟩ : ∃ k n e, cutTextL l = (k, n, e) := ⟨_, _, _, rfl⟩
  obtain ⟨x0, n0, c0, hc0⟩ : ∃ x n c, cutL l = (x, n, c) := ⟨_, _, _, rfl⟩
  have f1 := V7.cutTextL_len h1
  have CT := fun v w h => V7.cutText_max v l x0 n0 c0 hc0 w h
  rw [h1] at CT
  by_cases he : e = 0
  · subst he
    obtain ⟨a, b, s, m, e, h2⟩ : ∃ a b s m e, V7.cutVL (l.drop n) = ((a, b, s), m, e) := ⟨_, _, _, _, _, rfl⟩
    have f2 := cutVL_len h2
    rw [List.length_drop] at f2
    have CV := fun v w h => V7.cutV_any v (l.drop n) w h
    rw [h2] at CV
    by_cases he : e = 0
    · subst he
      obtain ⟨x, o, e, h3⟩ : ∃ x o e, cutL (l.drop (n + m)) = (x, o, e) := ⟨_, _, _, rfl⟩
      have f3 := cutL_facts h3
      have CN := fun v w h => cut_at v (l.drop (n + m)) x o e h3 w h
      by_cases he : e = 0
      · subst he
        rw [cutIL_4 h1 h2 h3]
        exact cutI_4 v l w h k s a b n m x o (by omega) (by omega) (by omega) (by omega) CT CV CN
      · rw [cutIL_3 h1 h2 h3 he]
        exact cutI_3 v l w h k s a b n m x o e (by omega) (by omega) (by omega) (V7.bne_int he).1 CT CV CN
    · rw [cutIL_2 h1 h2 he]
      obtain ⟨rfl, rfl, rfl, rfl⟩ := cutVL_err h2 he
      exact cutI_2 v l w h k n e (by omega) (by omega) (V7.bne_int he).1 CT CV
  · rw [cutIL_1 h1 he]
    obtain ⟨rfl, rfl⟩ := V7.cutTextL_err h1 he
    exact cutI_1 v l w h e (V7.bne_int he).1 CT
end Go.Proofs.YtoagdmglchccnaaGreatDoor
