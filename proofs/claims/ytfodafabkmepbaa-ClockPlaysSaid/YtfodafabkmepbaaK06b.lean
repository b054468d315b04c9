/- The clock's functions. -/
import Derived.Test.YtfodafabkmepbaaK06
namespace Go.Proofs.Ytfodafabkmepbaa
open Go.RowKit
set_option linter.unusedVariables false
set_option linter.unusedSimpArgs false
theorem block_cells {w : World} {B : Nat} {a0 a1 a2 a3 a4 a5 : Value} {t : TypeId} (h : w.heap[B]? = some (.cells #[a0, a1, a2, a3, a4, a5] t (0, 0))) :
    w.cell? ⟨B, 0, none⟩ = some a0 ∧ w.cell? ⟨B, 1, none⟩ = some a1 ∧ w.cell? ⟨B, 2, none⟩ = some a2 ∧ w.cell? ⟨B, 3, none⟩ = some a3 ∧ w.cell? ⟨B, 4, none⟩ = some a4 ∧ w.cell? ⟨B, 5, none⟩ = some a5 ∧ ∀ i, w.frozen? ⟨B, i, none⟩ = false := by
  refine ⟨?_, ?_, ?_, ?_, ?_, ?_, ?_⟩
  all_goals simp [World.cell?, World.frozen?, h]
def clockObj (c : Ck) : Obj := .cells #[.int .i64 c.now, .int .i64 c.wait, .int .i64 c.base, .int .i64 c.cap, .bool c.on, .int .i64 c.due] 23 (0, 0)
theorem three_allocs (w : World) (a b c : Obj) :
    (((w.alloc a).alloc b).alloc c).heap[w.heap.size]? = some a ∧ (((w.alloc a).alloc b).alloc c).heap[w.heap.size + 1]? = some b ∧ (((w.alloc a).alloc b).alloc c).heap.size = w.heap.size + 3 ∧ ∀ k, k < w.heap.size → (((w.alloc a).alloc b).alloc c).heap[k]? = w.heap[k]? := by
  have z1 : (w.alloc a).heap.size = w.heap.size + 1 := by simp
  have z2 : ((w.alloc a).alloc b).heap.size = w.heap.size + 2 := by simp
  refine ⟨?_, ?_, by simp, ?_⟩
  · rw [heap_alloc_old _ _ (by omega), heap_alloc_old _ _ (by omega), heap_alloc_new]
  · rw [heap_alloc_old _ _ (by omega), ← z1, heap_alloc_new]
  · intro k hk
    rw [heap_alloc_old _ _ (by omega), heap_alloc_old _ _ (by omega), heap_alloc_old _ _ hk]
/-- What a call leaves: what was there, but for block R, is as it was. -/
structure Kept1 (w w' : World) (R : Nat) : Prop where
  size : w.heap.size ≤ w'.heap.size
  os : w'.os = w.os
  tape : w'.tape = w.tape
  output : w'.output = w.output
  block : ∀ k, k < w.heap.size → k ≠ R → w'.heap[k]? = w.heap[k]?
theorem set_old {w : World} {B i k : Nat} {u : Value} (h : k ≠ B) : (w.setCell ⟨B, i, none⟩ u).heap[k]? = w.heap[k]? := heap_setCell_other w ⟨B, i, none⟩ k u (by simpa using h)
theorem set6_old {w : World} {B k : Nat} {u0 u1 u2 u3 u4 u5 : Value} (h : k ≠ B) :
    ((((((w.setCell ⟨B, 0, none⟩ u0).setCell ⟨B, 1, none⟩ u1).setCell ⟨B, 2, none⟩ u2).setCell ⟨B, 3, none⟩ u3).setCell ⟨B, 4, none⟩ u4).setCell ⟨B, 5, none⟩ u5).heap[k]? = w.heap[k]? := by
  rw [set_old h, set_old h, set_old h, set_old h, set_old h, set_old h]
theorem kept1_set {w0 w : World} {R B i : Nat} {u : Value} (h : Kept1 w0 w R) (hB : w0.heap.size ≤ B) : Kept1 w0 (w.setCell ⟨B, i, none⟩ u) R :=
  ⟨by have := h.size; simpa using this, h.os, h.tape, h.output, fun k hk hr => (set_old (by omega)).trans (h.block k hk hr)⟩
theorem kept1_set6 {w0 w : World} {R B : Nat} {u0 u1 u2 u3 u4 u5 : Value} (h : Kept1 w0 w R) (hB : w0.heap.size ≤ B) :
    Kept1 w0 ((((((w.setCell ⟨B, 0, none⟩ u0).setCell ⟨B, 1, none⟩ u1).setCell ⟨B, 2, none⟩ u2).setCell ⟨B, 3, none⟩ u3).setCell ⟨B, 4, none⟩ u4).setCell ⟨B, 5, none⟩ u5) R :=
  kept1_set (kept1_set (kept1_set (kept1_set (kept1_set (kept1_set h hB) hB) hB) hB) hB) hB
-- WITH
set_option maxRecDepth 100000 in
set_option maxHeartbeats 1000000 in
theorem with_start (c c' : Ck) (R : Nat) (Y : World → Prop) (w : World) (hm : MayP c) (hR : R ≤ w.heap.size)
    (hY : ∀ w2 w3 : World, (∀ k, k < w.heap.size → w3.heap[k]? = w2.heap[k]?) → Y w2 → Y w3)
    (hcl : ∀ w1 : World, Holds w1 w.heap.size c → w.heap.size + 3 ≤ w1.heap.size → (∀ k, k < w.heap.size → w1.heap[k]? = w.heap[k]?) → Calls Try.prog 25 #[.pointer (some ⟨w.heap.size, 0, none⟩)] w1 fun e w2 => e = .returned (.tuple #[]) ∧ Holds w2 w.heap.size c' ∧ Kept2 w1 w2 w.heap.size R ∧ Y w2) :
    Calls Try.prog 23 #[ckV c, .func (.func 25) #[] #[]] w fun e w' => e = .returned (.tuple #[ckV c', .int .i64 0]) ∧ Kept1 w w' R ∧ Y w' := by
  have e1 := mayC_true hm
  obtain ⟨n, wt, b, cp, o, d⟩ := c
  obtain ⟨n', wt', b', cp', o', d'⟩ := c'
  have H := Lib.hid e1
  have HC := Lib.hid hcl
  have HY := Lib.hid hY
  have HM := Lib.hid hm
  clear e1 hcl hY hm
  unfold ckV
  go_enter Try.func23, Try.ntmps23
  go_wp2_with (go_at_call 11; refine (may_any ⟨n, wt, b, cp, o, d⟩ _).mono ?_; rintro e w' ⟨rfl, rfl⟩; rw [H.out])
  obtain ⟨t1, t2, t3, t4⟩ := three_allocs w (.cells #[.int .i64 n, .int .i64 wt, .int .i64 b, .int .i64 cp, .bool o, .int .i64 d] 23) (.cells #[.int .i64 0, .int .i64 0, .int .i64 0, .int .i64 0, .bool false, .int .i64 0] 23) (.cells #[.int .i64 n, .int .i64 wt, .int .i64 b, .int .i64 cp, .bool o, .int .i64 d] 23)
  refine (HC.out _ t1 (by omega) t4).mono ?_
  rintro e w2 ⟨rfl, g1, g2, g3⟩
  have r1 := (g2.block (w.heap.size + 1) (by omega) (by omega) (by omega)).trans t2
  obtain ⟨b0, b1, b2, b3, b4, b5, bf⟩ := block_cells r1
  obtain ⟨k0, k1, k2, k3, k4, k5, _⟩ := holds_cells g1
  have bf0 := bf 0
  have bf1 := bf 1
  have bf2 := bf 2
  have bf3 := bf 3
  have bf4 := bf 4
  have bf5 := bf 5
  have sz := g2.size
  have kept : Kept1 w w2 R := ⟨by omega, g2.os, g2.tape, g2.output, fun k hk hr => (g2.block k (by omega) (by omega) hr).trans (t4 k hk)⟩
  have KP := Lib.hid kept
  have G3 := Lib.hid g3
  have lt2 : w.heap.size + 1 < w2.heap.size := by omega
  clear bf r1 g1 g2 g3 kept t1 t2 t3 t4 HM
  simp only [] at k0 k1 k2 k3 k4 k5
  go_wp2
  refine bodyPost_ret (v := .tuple #[.agg #[.int .i64 n', .int .i64 wt', .int .i64 b', .int .i64 cp', .bool o', .int .i64 d'], .int .i64 0]) (by simp [results, Try.results23, go_sem, b0, b1, b2, b3, b4, b5]) rfl ⟨rfl, ?_, ?_⟩
  · have kp := KP.out
    exact kept1_set6 kp (by omega)
  · exact HY.out w2 _ (fun k hk => set6_old (by omega)) G3.out
set_option maxRecDepth 100000 in
set_option maxHeartbeats 1000000 in
theorem with_stop (c c' : Ck) (R : Nat) (Y : World → Prop) (w : World) (hm : MayP c) (hR : R ≤ w.heap.size)
    (hY : ∀ w2 w3 : World, (∀ k, k < w.heap.size → w3.heap[k]? = w2.heap[k]?) → Y w2 → Y w3)
    (hcl : ∀ w1 : World, Holds w1 w.heap.size c → w.heap.size + 3 ≤ w1.heap.size → (∀ k, k < w.heap.size → w1.heap[k]? = w.heap[k]?) → Calls Try.prog 26 #[.pointer (some ⟨w.heap.size, 0, none⟩)] w1 fun e w2 => e = .returned (.tuple #[]) ∧ Holds w2 w.heap.size c' ∧ Kept2 w1 w2 w.heap.size R ∧ Y w2) :
    Calls Try.prog 23 #[ckV c, .func (.func 26) #[] #[]] w fun e w' => e = .returned (.tuple #[ckV c', .int .i64 0]) ∧ Kept1 w w' R ∧ Y w' := by
  have e1 := mayC_true hm
  obtain ⟨n, wt, b, cp, o, d⟩ := c
  obtain ⟨n', wt', b', cp', o', d'⟩ := c'
  have H := Lib.hid e1
  have HC := Lib.hid hcl
  have HY := Lib.hid hY
  have HM := Lib.hid hm
  clear e1 hcl hY hm
  unfold ckV
  go_enter Try.func23, Try.ntmps23
  go_wp2_with (go_at_call 11; refine (may_any ⟨n, wt, b, cp, o, d⟩ _).mono ?_; rintro e w' ⟨rfl, rfl⟩; rw [H.out])
  obtain ⟨t1, t2, t3, t4⟩ := three_allocs w (.cells #[.int .i64 n, .int .i64 wt, .int .i64 b, .int .i64 cp, .bool o, .int .i64 d] 23) (.cells #[.int .i64 0, .int .i64 0, .int .i64 0, .int .i64 0, .bool false, .int .i64 0] 23) (.cells #[.int .i64 n, .int .i64 wt, .int .i64 b, .int .i64 cp, .bool o, .int .i64 d] 23)
  refine (HC.out _ t1 (by omega) t4).mono ?_
  rintro e w2 ⟨rfl, g1, g2, g3⟩
  have r1 := (g2.block (w.heap.size + 1) (by omega) (by omega) (by omega)).trans t2
  obtain ⟨b0, b1, b2, b3, b4, b5, bf⟩ := block_cells r1
  obtain ⟨k0, k1, k2, k3, k4, k5, _⟩ := holds_cells g1
  have bf0 := bf 0
  have bf1 := bf 1
  have bf2 := bf 2
  have bf3 := bf 3
  have bf4 := bf 4
  have bf5 := bf 5
  have sz := g2.size
  have kept : Kept1 w w2 R := ⟨by omega, g2.os, g2.tape, g2.output, fun k hk hr => (g2.block k (by omega) (by omega) hr).trans (t4 k hk)⟩
  have KP := Lib.hid kept
  have G3 := Lib.hid g3
  have lt2 : w.heap.size + 1 < w2.heap.size := by omega
  clear bf r1 g1 g2 g3 kept t1 t2 t3 t4 HM
  simp only [] at k0 k1 k2 k3 k4 k5
  go_wp2
  refine bodyPost_ret (v := .tuple #[.agg #[.int .i64 n', .int .i64 wt', .int .i64 b', .int .i64 cp', .bool o', .int .i64 d'], .int .i64 0]) (by simp [results, Try.results23, go_sem, b0, b1, b2, b3, b4, b5]) rfl ⟨rfl, ?_, ?_⟩
  · have kp := KP.out
    exact kept1_set6 kp (by omega)
  · exact HY.out w2 _ (fun k hk => set6_old (by omega)) G3.out
set_option maxRecDepth 100000 in
set_option maxHeartbeats 1000000 in
theorem with_tick (c c' : Ck) (cell : Addr) (R : Nat) (Y : World → Prop) (w : World) (hm : MayP c) (hR : R ≤ w.heap.size)
    (hY : ∀ w2 w3 : World, (∀ k, k < w.heap.size → w3.heap[k]? = w2.heap[k]?) → Y w2 → Y w3)
    (hcl : ∀ w1 : World, Holds w1 w.heap.size c → w.heap.size + 3 ≤ w1.heap.size → (∀ k, k < w.heap.size → w1.heap[k]? = w.heap[k]?) → Calls Try.prog 27 #[.pointer (some ⟨w.heap.size, 0, none⟩), .pointer (some cell)] w1 fun e w2 => e = .returned (.tuple #[]) ∧ Holds w2 w.heap.size c' ∧ Kept2 w1 w2 w.heap.size R ∧ Y w2) :
    Calls Try.prog 23 #[ckV c, .func (.func 27) #[] #[.pointer (some cell)]] w fun e w' => e = .returned (.tuple #[ckV c', .int .i64 0]) ∧ Kept1 w w' R ∧ Y w' := by
  have e1 := mayC_true hm
  obtain ⟨n, wt, b, cp, o, d⟩ := c
  obtain ⟨n', wt', b', cp', o', d'⟩ := c'
  have H := Lib.hid e1
  have HC := Lib.hid hcl
  have HY := Lib.hid hY
  have HM := Lib.hid hm
  clear e1 hcl hY hm
  unfold ckV
  go_enter Try.func23, Try.ntmps23
  go_wp2_with (go_at_call 11; refine (may_any ⟨n, wt, b, cp, o, d⟩ _).mono ?_; rintro e w' ⟨rfl, rfl⟩; rw [H.out])
  obtain ⟨t1, t2, t3, t4⟩ := three_allocs w (.cells #[.int .i64 n, .int .i64 wt, .int .i64 b, .int .i64 cp, .bool o, .int .i64 d] 23) (.cells #[.int .i64 0, .int .i64 0, .int .i64 0, .int .i64 0, .bool false, .int .i64 0] 23) (.cells #[.int .i64 n, .int .i64 wt, .int .i64 b, .int .i64 cp, .bool o, .int .i64 d] 23)
  refine (HC.out _ t1 (by omega) t4).mono ?_
  rintro e w2 ⟨rfl, g1, g2, g3⟩
  have r1 := (g2.block (w.heap.size + 1) (by omega) (by omega) (by omega)).trans t2
  obtain ⟨b0, b1, b2, b3, b4, b5, bf⟩ := block_cells r1
  obtain ⟨k0, k1, k2, k3, k4, k5, _⟩ := holds_cells g1
  have bf0 := bf 0
  have bf1 := bf 1
  have bf2 := bf 2
  have bf3 := bf 3
  have bf4 := bf 4
  have bf5 := bf 5
  have sz := g2.size
  have kept : Kept1 w w2 R := ⟨by omega, g2.os, g2.tape, g2.output, fun k hk hr => (g2.block k (by omega) (by omega) hr).trans (t4 k hk)⟩
  have KP := Lib.hid kept
  have G3 := Lib.hid g3
  have lt2 : w.heap.size + 1 < w2.heap.size := by omega
  clear bf r1 g1 g2 g3 kept t1 t2 t3 t4 HM
  simp only [] at k0 k1 k2 k3 k4 k5
  go_wp2
  refine bodyPost_ret (v := .tuple #[.agg #[.int .i64 n', .int .i64 wt', .int .i64 b', .int .i64 cp', .bool o', .int .i64 d'], .int .i64 0]) (by simp [results, Try.results23, go_sem, b0, b1, b2, b3, b4, b5]) rfl ⟨rfl, ?_, ?_⟩
  · have kp := KP.out
    exact kept1_set6 kp (by omega)
  · exact HY.out w2 _ (fun k hk => set6_old (by omega)) G3.out
set_option maxRecDepth 100000 in
set_option maxHeartbeats 1000000 in
theorem with_double (c c' : Ck) (R : Nat) (Y : World → Prop) (w : World) (hm : MayP c) (hR : R ≤ w.heap.size)
    (hY : ∀ w2 w3 : World, (∀ k, k < w.heap.size → w3.heap[k]? = w2.heap[k]?) → Y w2 → Y w3)
    (hcl : ∀ w1 : World, Holds w1 w.heap.size c → w.heap.size + 3 ≤ w1.heap.size → (∀ k, k < w.heap.size → w1.heap[k]? = w.heap[k]?) → Calls Try.prog 28 #[.pointer (some ⟨w.heap.size, 0, none⟩)] w1 fun e w2 => e = .returned (.tuple #[]) ∧ Holds w2 w.heap.size c' ∧ Kept2 w1 w2 w.heap.size R ∧ Y w2) :
    Calls Try.prog 23 #[ckV c, .func (.func 28) #[] #[]] w fun e w' => e = .returned (.tuple #[ckV c', .int .i64 0]) ∧ Kept1 w w' R ∧ Y w' := by
  have e1 := mayC_true hm
  obtain ⟨n, wt, b, cp, o, d⟩ := c
  obtain ⟨n', wt', b', cp', o', d'⟩ := c'
  have H := Lib.hid e1
  have HC := Lib.hid hcl
  have HY := Lib.hid hY
  have HM := Lib.hid hm
  clear e1 hcl hY hm
  unfold ckV
  go_enter Try.func23, Try.ntmps23
  go_wp2_with (go_at_call 11; refine (may_any ⟨n, wt, b, cp, o, d⟩ _).mono ?_; rintro e w' ⟨rfl, rfl⟩; rw [H.out])
  obtain ⟨t1, t2, t3, t4⟩ := three_allocs w (.cells #[.int .i64 n, .int .i64 wt, .int .i64 b, .int .i64 cp, .bool o, .int .i64 d] 23) (.cells #[.int .i64 0, .int .i64 0, .int .i64 0, .int .i64 0, .bool false, .int .i64 0] 23) (.cells #[.int .i64 n, .int .i64 wt, .int .i64 b, .int .i64 cp, .bool o, .int .i64 d] 23)
  refine (HC.out _ t1 (by omega) t4).mono ?_
  rintro e w2 ⟨rfl, g1, g2, g3⟩
  have r1 := (g2.block (w.heap.size + 1) (by omega) (by omega) (by omega)).trans t2
  obtain ⟨b0, b1, b2, b3, b4, b5, bf⟩ := block_cells r1
  obtain ⟨k0, k1, k2, k3, k4, k5, _⟩ := holds_cells g1
  have bf0 := bf 0
  have bf1 := bf 1
  have bf2 := bf 2
  have bf3 := bf 3
  have bf4 := bf 4
  have bf5 := bf 5
  have sz := g2.size
  have kept : Kept1 w w2 R := ⟨by omega, g2.os, g2.tape, g2.output, fun k hk hr => (g2.block k (by omega) (by omega) hr).trans (t4 k hk)⟩
  have KP := Lib.hid kept
  have G3 := Lib.hid g3
  have lt2 : w.heap.size + 1 < w2.heap.size := by omega
  clear bf r1 g1 g2 g3 kept t1 t2 t3 t4 HM
  simp only [] at k0 k1 k2 k3 k4 k5
  go_wp2
  refine bodyPost_ret (v := .tuple #[.agg #[.int .i64 n', .int .i64 wt', .int .i64 b', .int .i64 cp', .bool o', .int .i64 d'], .int .i64 0]) (by simp [results, Try.results23, go_sem, b0, b1, b2, b3, b4, b5]) rfl ⟨rfl, ?_, ?_⟩
  · have kp := KP.out
    exact kept1_set6 kp (by omega)
  · exact HY.out w2 _ (fun k hk => set6_old (by omega)) G3.out
set_option maxRecDepth 100000 in
set_option maxHeartbeats 1000000 in
theorem with_reset (c c' : Ck) (R : Nat) (Y : World → Prop) (w : World) (hm : MayP c) (hR : R ≤ w.heap.size)
    (hY : ∀ w2 w3 : World, (∀ k, k < w.heap.size → w3.heap[k]? = w2.heap[k]?) → Y w2 → Y w3)
    (hcl : ∀ w1 : World, Holds w1 w.heap.size c → w.heap.size + 3 ≤ w1.heap.size → (∀ k, k < w.heap.size → w1.heap[k]? = w.heap[k]?) → Calls Try.prog 29 #[.pointer (some ⟨w.heap.size, 0, none⟩)] w1 fun e w2 => e = .returned (.tuple #[]) ∧ Holds w2 w.heap.size c' ∧ Kept2 w1 w2 w.heap.size R ∧ Y w2) :
    Calls Try.prog 23 #[ckV c, .func (.func 29) #[] #[]] w fun e w' => e = .returned (.tuple #[ckV c', .int .i64 0]) ∧ Kept1 w w' R ∧ Y w' := by
  have e1 := mayC_true hm
  obtain ⟨n, wt, b, cp, o, d⟩ := c
  obtain ⟨n', wt', b', cp', o', d'⟩ := c'
  have H := Lib.hid e1
  have HC := Lib.hid hcl
  have HY := Lib.hid hY
  have HM := Lib.hid hm
  clear e1 hcl hY hm
  unfold ckV
  go_enter Try.func23, Try.ntmps23
  go_wp2_with (go_at_call 11; refine (may_any ⟨n, wt, b, cp, o, d⟩ _).mono ?_; rintro e w' ⟨rfl, rfl⟩; rw [H.out])
  obtain ⟨t1, t2, t3, t4⟩ := three_allocs w (.cells #[.int .i64 n, .int .i64 wt, .int .i64 b, .int .i64 cp, .bool o, .int .i64 d] 23) (.cells #[.int .i64 0, .int .i64 0, .int .i64 0, .int .i64 0, .bool false, .int .i64 0] 23) (.cells #[.int .i64 n, .int .i64 wt, .int .i64 b, .int .i64 cp, .bool o, .int .i64 d] 23)
  refine (HC.out _ t1 (by omega) t4).mono ?_
  rintro e w2 ⟨rfl, g1, g2, g3⟩
  have r1 := (g2.block (w.heap.size + 1) (by omega) (by omega) (by omega)).trans t2
  obtain ⟨b0, b1, b2, b3, b4, b5, bf⟩ := block_cells r1
  obtain ⟨k0, k1, k2, k3, k4, k5, _⟩ := holds_cells g1
  have bf0 := bf 0
  have bf1 := bf 1
  have bf2 := bf 2
  have bf3 := bf 3
  have bf4 := bf 4
  have bf5 := bf 5
  have sz := g2.size
  have kept : Kept1 w w2 R := ⟨by omega, g2.os, g2.tape, g2.output, fun k hk hr => (g2.block k (by omega) (by omega) hr).trans (t4 k hk)⟩
  have KP := Lib.hid kept
  have G3 := Lib.hid g3
  have lt2 : w.heap.size + 1 < w2.heap.size := by omega
  clear bf r1 g1 g2 g3 kept t1 t2 t3 t4 HM
  simp only [] at k0 k1 k2 k3 k4 k5
  go_wp2
  refine bodyPost_ret (v := .tuple #[.agg #[.int .i64 n', .int .i64 wt', .int .i64 b', .int .i64 cp', .bool o', .int .i64 d'], .int .i64 0]) (by simp [results, Try.results23, go_sem, b0, b1, b2, b3, b4, b5]) rfl ⟨rfl, ?_, ?_⟩
  · have kp := KP.out
    exact kept1_set6 kp (by omega)
  · exact HY.out w2 _ (fun k hk => set6_old (by omega)) G3.out
set_option maxRecDepth 100000 in
set_option maxHeartbeats 1000000 in
theorem with_new (c c' : Ck) (R : Nat) (Y : World → Prop) (w : World) (hm : MayP c) (hR : R ≤ w.heap.size)
    (hY : ∀ w2 w3 : World, (∀ k, k < w.heap.size → w3.heap[k]? = w2.heap[k]?) → Y w2 → Y w3)
    (hcl : ∀ w1 : World, Holds w1 w.heap.size c → w.heap.size + 3 ≤ w1.heap.size → (∀ k, k < w.heap.size → w1.heap[k]? = w.heap[k]?) → Calls Try.prog 24 #[.pointer (some ⟨w.heap.size, 0, none⟩)] w1 fun e w2 => e = .returned (.tuple #[]) ∧ Holds w2 w.heap.size c' ∧ Kept2 w1 w2 w.heap.size R ∧ Y w2) :
    Calls Try.prog 23 #[ckV c, .func (.func 24) #[] #[]] w fun e w' => e = .returned (.tuple #[ckV c', .int .i64 0]) ∧ Kept1 w w' R ∧ Y w' := by
  have e1 := mayC_true hm
  obtain ⟨n, wt, b, cp, o, d⟩ := c
  obtain ⟨n', wt', b', cp', o', d'⟩ := c'
  have H := Lib.hid e1
  have HC := Lib.hid hcl
  have HY := Lib.hid hY
  have HM := Lib.hid hm
  clear e1 hcl hY hm
  unfold ckV
  go_enter Try.func23, Try.ntmps23
  go_wp2_with (go_at_call 11; refine (may_any ⟨n, wt, b, cp, o, d⟩ _).mono ?_; rintro e w' ⟨rfl, rfl⟩; rw [H.out])
  obtain ⟨t1, t2, t3, t4⟩ := three_allocs w (.cells #[.int .i64 n, .int .i64 wt, .int .i64 b, .int .i64 cp, .bool o, .int .i64 d] 23) (.cells #[.int .i64 0, .int .i64 0, .int .i64 0, .int .i64 0, .bool false, .int .i64 0] 23) (.cells #[.int .i64 n, .int .i64 wt, .int .i64 b, .int .i64 cp, .bool o, .int .i64 d] 23)
  refine (HC.out _ t1 (by omega) t4).mono ?_
  rintro e w2 ⟨rfl, g1, g2, g3⟩
  have r1 := (g2.block (w.heap.size + 1) (by omega) (by omega) (by omega)).trans t2
  obtain ⟨b0, b1, b2, b3, b4, b5, bf⟩ := block_cells r1
  obtain ⟨k0, k1, k2, k3, k4, k5, _⟩ := holds_cells g1
  have bf0 := bf 0
  have bf1 := bf 1
  have bf2 := bf 2
  have bf3 := bf 3
  have bf4 := bf 4
  have bf5 := bf 5
  have sz := g2.size
  have kept : Kept1 w w2 R := ⟨by omega, g2.os, g2.tape, g2.output, fun k hk hr => (g2.block k (by omega) (by omega) hr).trans (t4 k hk)⟩
  have KP := Lib.hid kept
  have G3 := Lib.hid g3
  have lt2 : w.heap.size + 1 < w2.heap.size := by omega
  clear bf r1 g1 g2 g3 kept t1 t2 t3 t4 HM
  simp only [] at k0 k1 k2 k3 k4 k5
  go_wp2
  refine bodyPost_ret (v := .tuple #[.agg #[.int .i64 n', .int .i64 wt', .int .i64 b', .int .i64 cp', .bool o', .int .i64 d'], .int .i64 0]) (by simp [results, Try.results23, go_sem, b0, b1, b2, b3, b4, b5]) rfl ⟨rfl, ?_, ?_⟩
  · have kp := KP.out
    exact kept1_set6 kp (by omega)
  · exact HY.out w2 _ (fun k hk => set6_old (by omega)) G3.out
end Go.Proofs.Ytfodafabkmepbaa
