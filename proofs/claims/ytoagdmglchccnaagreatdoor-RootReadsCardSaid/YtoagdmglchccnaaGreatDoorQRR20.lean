/- Values: what bytes are read as, by the program. Written by wip/tools/gen7c.py. -/
import Derived.Test.YtoagdmglchccnaaGreatDoorQRR19
namespace Go.Proofs.YtoagdmglchccnaaGreatDoor.V7
open Go Go.RowKit
set_option linter.unusedVariables false
set_option linter.unusedSimpArgs false
set_option maxRecDepth 100000 in
theorem cutV_0 (v : Value) (r : List UInt8) (w : World) (h : Rd w v (0 :: r)) :
    Calls Tryz.prog 149 #[v] w fun e w' => e = .returned (.tuple #[.agg #[.int .i64 0, .int .i64 0, .string (str [])], .int .i64 1, .int .i64 0]) ∧ Below w.heap.size w w' := by
  obtain ⟨b, off, cap, rfl, hl, hm, hb, h0⟩ := rd_cons h
  have HR : ∀ o o', Rd ((w.alloc o).alloc o') (.slice (some ⟨b, off, none⟩) (r.length + 1) cap) (0 :: r) := fun o o' => h.below (((Below.refl _ _).alloc (Nat.le_refl _) o).alloc (by simp) o') (Nat.le_refl _)
  have hm2 := hm
  unfold maxLen at hm2
  obtain ⟨i0, hi, hz0, hz1, hz2⟩ := info_parts u8info
  rw [show ((0 : UInt8).toNat : Int) = 0 from rfl] at h0
  clear h
  go_enter Tryz.func149, Tryz.ntmps149
  go_wp2_with fail
  refine bodyPost_ret (v := .tuple #[.agg #[.int .i64 0, .int .i64 0, .string (str [])], .int .i64 1, .int .i64 0]) (by simp [results, Tryz.results149, go_sem, str_e]) rfl ⟨rfl, ?_⟩
  repeat (first | exact Below.refl _ _ | refine Below.setCell ?_ (by simp) _ | refine Below.alloc ?_ (by simp; try omega) _)
set_option maxRecDepth 100000 in
theorem cutV_1_yes (v : Value) (r : List UInt8) (i : Int) (n x : Int) (w : World) (h : Rd w v (1 :: r)) (hn : 0 ≤ n) (hn2 : n ≤ 300)
    (CB : ∀ v w, Rd w v r → Calls Tryz.prog 169 #[v] w fun e w' => e = .returned (.tuple #[.int .i64 i, .int .i64 n, .int .i64 0]) ∧ w = w') :
    Calls Tryz.prog 149 #[v] w fun e w' => e = .returned (.tuple #[.agg #[.int .i64 1, .int .i64 i, .string (str [])], .int .i64 (n + 1), .int .i64 0]) ∧ Below w.heap.size w w' := by
  obtain ⟨b, off, cap, rfl, hl, hm, hb, h0⟩ := rd_cons h
  have HR : ∀ o o', Rd ((w.alloc o).alloc o') (.slice (some ⟨b, off, none⟩) (r.length + 1) cap) (1 :: r) := fun o o' => h.below (((Below.refl _ _).alloc (Nat.le_refl _) o).alloc (by simp) o') (Nat.le_refl _)
  have hm2 := hm
  unfold maxLen at hm2
  obtain ⟨i0, hi, hz0, hz1, hz2⟩ := info_parts u8info
  rw [show ((1 : UInt8).toNat : Int) = 1 from rfl] at h0
  clear h
  go_enter Tryz.func149, Tryz.ntmps149
  go_wp2_with (first
   | (go_at_call 169; refine (CB _ _ hr').mono ?_; rintro e w' ⟨rfl, rfl⟩)
   | (with_reducible refine wpList_slice_from rfl 115 5 _ _ rfl i0 Tryz.underlying115 hi hz1 _ _ _ (1 :: r) rfl (HR _ _) _ _ rfl 1 rfl (by omega) ?_; intro ao' cap' hr'))
  refine bodyPost_ret (v := .tuple #[.agg #[.int .i64 1, .int .i64 i, .string (str [])], .int .i64 (n + 1), .int .i64 0]) (by simp [results, Tryz.results149, go_sem, str_e]) rfl ⟨rfl, ?_⟩
  repeat (first | exact Below.refl _ _ | refine Below.setCell ?_ (by simp) _ | refine Below.alloc ?_ (by simp; try omega) _)
set_option maxRecDepth 100000 in
theorem cutV_1_no (v : Value) (r : List UInt8) (i : Int) (n x : Int) (w : World) (h : Rd w v (1 :: r)) (hn : 0 ≤ n) (hn2 : n ≤ 300) (hx : (x != 0) = true)
    (CB : ∀ v w, Rd w v r → Calls Tryz.prog 169 #[v] w fun e w' => e = .returned (.tuple #[.int .i64 i, .int .i64 n, .int .i64 x]) ∧ w = w') :
    Calls Tryz.prog 149 #[v] w fun e w' => e = .returned (.tuple #[.agg #[.int .i64 0, .int .i64 0, .string (str [])], .int .i64 0, .int .i64 x]) ∧ Below w.heap.size w w' := by
  obtain ⟨b, off, cap, rfl, hl, hm, hb, h0⟩ := rd_cons h
  have HR : ∀ o o', Rd ((w.alloc o).alloc o') (.slice (some ⟨b, off, none⟩) (r.length + 1) cap) (1 :: r) := fun o o' => h.below (((Below.refl _ _).alloc (Nat.le_refl _) o).alloc (by simp) o') (Nat.le_refl _)
  have hm2 := hm
  unfold maxLen at hm2
  obtain ⟨i0, hi, hz0, hz1, hz2⟩ := info_parts u8info
  rw [show ((1 : UInt8).toNat : Int) = 1 from rfl] at h0
  clear h
  go_enter Tryz.func149, Tryz.ntmps149
  go_wp2_with (first
   | (go_at_call 169; refine (CB _ _ hr').mono ?_; rintro e w' ⟨rfl, rfl⟩)
   | (with_reducible refine wpList_slice_from rfl 115 5 _ _ rfl i0 Tryz.underlying115 hi hz1 _ _ _ (1 :: r) rfl (HR _ _) _ _ rfl 1 rfl (by omega) ?_; intro ao' cap' hr'))
  refine bodyPost_ret (v := .tuple #[.agg #[.int .i64 0, .int .i64 0, .string (str [])], .int .i64 0, .int .i64 x]) (by simp [results, Tryz.results149, go_sem, str_e]) rfl ⟨rfl, ?_⟩
  repeat (first | exact Below.refl _ _ | refine Below.setCell ?_ (by simp) _ | refine Below.alloc ?_ (by simp; try omega) _)
set_option maxRecDepth 100000 in
theorem cutV_2_yes (v : Value) (r : List UInt8) (i : Int) (n x : Int) (w : World) (h : Rd w v (2 :: r)) (hn : 0 ≤ n) (hn2 : n ≤ 300)
    (CB : ∀ v w, Rd w v r → Calls Tryz.prog 170 #[v] w fun e w' => e = .returned (.tuple #[.int .i64 i, .int .i64 n, .int .i64 0]) ∧ w = w') :
    Calls Tryz.prog 149 #[v] w fun e w' => e = .returned (.tuple #[.agg #[.int .i64 2, .int .i64 i, .string (str [])], .int .i64 (n + 1), .int .i64 0]) ∧ Below w.heap.size w w' := by
  obtain ⟨b, off, cap, rfl, hl, hm, hb, h0⟩ := rd_cons h
  have HR : ∀ o o', Rd ((w.alloc o).alloc o') (.slice (some ⟨b, off, none⟩) (r.length + 1) cap) (2 :: r) := fun o o' => h.below (((Below.refl _ _).alloc (Nat.le_refl _) o).alloc (by simp) o') (Nat.le_refl _)
  have hm2 := hm
  unfold maxLen at hm2
  obtain ⟨i0, hi, hz0, hz1, hz2⟩ := info_parts u8info
  rw [show ((2 : UInt8).toNat : Int) = 2 from rfl] at h0
  clear h
  go_enter Tryz.func149, Tryz.ntmps149
  go_wp2_with (first
   | (go_at_call 170; refine (CB _ _ hr').mono ?_; rintro e w' ⟨rfl, rfl⟩)
   | (with_reducible refine wpList_slice_from rfl 115 5 _ _ rfl i0 Tryz.underlying115 hi hz1 _ _ _ (2 :: r) rfl (HR _ _) _ _ rfl 1 rfl (by omega) ?_; intro ao' cap' hr'))
  refine bodyPost_ret (v := .tuple #[.agg #[.int .i64 2, .int .i64 i, .string (str [])], .int .i64 (n + 1), .int .i64 0]) (by simp [results, Tryz.results149, go_sem, str_e]) rfl ⟨rfl, ?_⟩
  repeat (first | exact Below.refl _ _ | refine Below.setCell ?_ (by simp) _ | refine Below.alloc ?_ (by simp; try omega) _)
set_option maxRecDepth 100000 in
theorem cutV_2_no (v : Value) (r : List UInt8) (i : Int) (n x : Int) (w : World) (h : Rd w v (2 :: r)) (hn : 0 ≤ n) (hn2 : n ≤ 300) (hx : (x != 0) = true)
    (CB : ∀ v w, Rd w v r → Calls Tryz.prog 170 #[v] w fun e w' => e = .returned (.tuple #[.int .i64 i, .int .i64 n, .int .i64 x]) ∧ w = w') :
    Calls Tryz.prog 149 #[v] w fun e w' => e = .returned (.tuple #[.agg #[.int .i64 0, .int .i64 0, .string (str [])], .int .i64 0, .int .i64 x]) ∧ Below w.heap.size w w' := by
  obtain ⟨b, off, cap, rfl, hl, hm, hb, h0⟩ := rd_cons h
  have HR : ∀ o o', Rd ((w.alloc o).alloc o') (.slice (some ⟨b, off, none⟩) (r.length + 1) cap) (2 :: r) := fun o o' => h.below (((Below.refl _ _).alloc (Nat.le_refl _) o).alloc (by simp) o') (Nat.le_refl _)
  have hm2 := hm
  unfold maxLen at hm2
  obtain ⟨i0, hi, hz0, hz1, hz2⟩ := info_parts u8info
  rw [show ((2 : UInt8).toNat : Int) = 2 from rfl] at h0
  clear h
  go_enter Tryz.func149, Tryz.ntmps149
  go_wp2_with (first
   | (go_at_call 170; refine (CB _ _ hr').mono ?_; rintro e w' ⟨rfl, rfl⟩)
   | (with_reducible refine wpList_slice_from rfl 115 5 _ _ rfl i0 Tryz.underlying115 hi hz1 _ _ _ (2 :: r) rfl (HR _ _) _ _ rfl 1 rfl (by omega) ?_; intro ao' cap' hr'))
  refine bodyPost_ret (v := .tuple #[.agg #[.int .i64 0, .int .i64 0, .string (str [])], .int .i64 0, .int .i64 x]) (by simp [results, Tryz.results149, go_sem, str_e]) rfl ⟨rfl, ?_⟩
  repeat (first | exact Below.refl _ _ | refine Below.setCell ?_ (by simp) _ | refine Below.alloc ?_ (by simp; try omega) _)
set_option maxRecDepth 100000 in
theorem cutV_3_yes (v : Value) (r : List UInt8) (s : List UInt8) (n x : Int) (w : World) (h : Rd w v (3 :: r)) (hn : 0 ≤ n) (hn2 : n ≤ 300)
    (CB : ∀ v w, Rd w v r → Calls Tryz.prog 171 #[v] w fun e w' => e = .returned (.tuple #[.string (str s), .int .i64 n, .int .i64 0]) ∧ w = w') :
    Calls Tryz.prog 149 #[v] w fun e w' => e = .returned (.tuple #[.agg #[.int .i64 3, .int .i64 0, .string (str s)], .int .i64 (n + 1), .int .i64 0]) ∧ Below w.heap.size w w' := by
  obtain ⟨b, off, cap, rfl, hl, hm, hb, h0⟩ := rd_cons h
  have HR : ∀ o o', Rd ((w.alloc o).alloc o') (.slice (some ⟨b, off, none⟩) (r.length + 1) cap) (3 :: r) := fun o o' => h.below (((Below.refl _ _).alloc (Nat.le_refl _) o).alloc (by simp) o') (Nat.le_refl _)
  have hm2 := hm
  unfold maxLen at hm2
  obtain ⟨i0, hi, hz0, hz1, hz2⟩ := info_parts u8info
  rw [show ((3 : UInt8).toNat : Int) = 3 from rfl] at h0
  clear h
  go_enter Tryz.func149, Tryz.ntmps149
  go_wp2_with (first
   | (go_at_call 171; refine (CB _ _ hr').mono ?_; rintro e w' ⟨rfl, rfl⟩)
   | (with_reducible refine wpList_slice_from rfl 115 5 _ _ rfl i0 Tryz.underlying115 hi hz1 _ _ _ (3 :: r) rfl (HR _ _) _ _ rfl 1 rfl (by omega) ?_; intro ao' cap' hr'))
  refine bodyPost_ret (v := .tuple #[.agg #[.int .i64 3, .int .i64 0, .string (str s)], .int .i64 (n + 1), .int .i64 0]) (by simp [results, Tryz.results149, go_sem, str_e]) rfl ⟨rfl, ?_⟩
  repeat (first | exact Below.refl _ _ | refine Below.setCell ?_ (by simp) _ | refine Below.alloc ?_ (by simp; try omega) _)
set_option maxRecDepth 100000 in
theorem cutV_3_no (v : Value) (r : List UInt8) (s : List UInt8) (n x : Int) (w : World) (h : Rd w v (3 :: r)) (hn : 0 ≤ n) (hn2 : n ≤ 300) (hx : (x != 0) = true)
    (CB : ∀ v w, Rd w v r → Calls Tryz.prog 171 #[v] w fun e w' => e = .returned (.tuple #[.string (str s), .int .i64 n, .int .i64 x]) ∧ w = w') :
    Calls Tryz.prog 149 #[v] w fun e w' => e = .returned (.tuple #[.agg #[.int .i64 0, .int .i64 0, .string (str [])], .int .i64 0, .int .i64 x]) ∧ Below w.heap.size w w' := by
  obtain ⟨b, off, cap, rfl, hl, hm, hb, h0⟩ := rd_cons h
  have HR : ∀ o o', Rd ((w.alloc o).alloc o') (.slice (some ⟨b, off, none⟩) (r.length + 1) cap) (3 :: r) := fun o o' => h.below (((Below.refl _ _).alloc (Nat.le_refl _) o).alloc (by simp) o') (Nat.le_refl _)
  have hm2 := hm
  unfold maxLen at hm2
  obtain ⟨i0, hi, hz0, hz1, hz2⟩ := info_parts u8info
  rw [show ((3 : UInt8).toNat : Int) = 3 from rfl] at h0
  clear h
  go_enter Tryz.func149, Tryz.ntmps149
  go_wp2_with (first
   | (go_at_call 171; refine (CB _ _ hr').mono ?_; rintro e w' ⟨rfl, rfl⟩)
   | (with_reducible refine wpList_slice_from rfl 115 5 _ _ rfl i0 Tryz.underlying115 hi hz1 _ _ _ (3 :: r) rfl (HR _ _) _ _ rfl 1 rfl (by omega) ?_; intro ao' cap' hr'))
  refine bodyPost_ret (v := .tuple #[.agg #[.int .i64 0, .int .i64 0, .string (str [])], .int .i64 0, .int .i64 x]) (by simp [results, Tryz.results149, go_sem, str_e]) rfl ⟨rfl, ?_⟩
  repeat (first | exact Below.refl _ _ | refine Below.setCell ?_ (by simp) _ | refine Below.alloc ?_ (by simp; try omega) _)
end Go.Proofs.YtoagdmglchccnaaGreatDoor.V7
