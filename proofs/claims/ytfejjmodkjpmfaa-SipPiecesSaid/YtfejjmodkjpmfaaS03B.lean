/- The program's tag: what is taken in, a new one, the published secret. -/
import Derived.Test.YtfejjmodkjpmfaaS03A
namespace Go.Proofs.Ytfejjmodkjpmfaa
open Go.RowKit
set_option linter.unusedVariables false
set_option linter.unusedSimpArgs false
set_option maxRecDepth 100000 in
set_option maxHeartbeats 1000000 in
theorem take_any (s : St) (hs : s.Ok) (m : Nat) (hm : m < 18446744073709551616) (w : World) :
    Calls Try.prog 21 #[stV s, .int .u64 (m : Int)] w fun e w' => e = .returned (stV (takeN s m)) ∧ Below w.heap.size w w' := by
  have T := rounds_any _ (ok_setD s hs (xorN s.d m) (xor_lt hs.d hm)) 2 (by decide)
  have hok := rounds_ok _ (ok_setD s hs (xorN s.d m) (xor_lt hs.d hm)) 2
  unfold takeN
  simp only []
  have q1 := xor_is hs.d hm
  obtain ⟨a, b, c, d⟩ := s
  simp only [] at T hok q1 ⊢
  generalize xorN d m = d1 at T hok q1 ⊢
  generalize roundsN 2 ⟨a, b, c, d1⟩ = u at T hok ⊢
  obtain ⟨p0, p1, p2, p3⟩ := u
  have q2 := xor_is hok.a hm
  simp only [] at q2
  simp only [stV] at T ⊢
  generalize xorN p0 m = p0' at q2 ⊢
  clear hok hs hm
  have B := Below.refl w.heap.size w
  go_enter Try.func21, Try.ntmps21
  go_wp2_with fail
  refine (T _).mono ?_
  rintro e w1 ⟨rfl, g⟩
  have s1 := g.size
  simp only [World.size_alloc] at s1
  have r2 : w1.heap[w.heap.size]? = some (.cells #[.int .u64 (a : Int), .int .u64 (b : Int), .int .u64 (c : Int), .int .u64 (d1 : Int)] 46 (0, 0)) := (g.block _ (by simp only [World.size_alloc]; omega)).trans (two_allocs w _ _).1
  have r4 : w1.heap[(w.heap.size + 1)]? = some (.cells #[.int .u64 0, .int .u64 0, .int .u64 0, .int .u64 0] 46 (0, 0)) := (g.block _ (by simp only [World.size_alloc]; omega)).trans (two_allocs w _ _).2.1
  have B := chain (W := w) (by go_grown) g
  clear g
  have lt2 := lt_of_block r2
  have lt4 := lt_of_block r4
  obtain ⟨x0, x1, x2, x3, xf⟩ := block_cells4 r2
  obtain ⟨y0, y1, y2, y3, yf⟩ := block_cells4 r4
  have f0 := xf 0
  have f1 := xf 1
  have f2 := xf 2
  have f3 := xf 3
  clear xf T
  iterate 8 (first | go_values | go_skip | go_guarded | go_step | go_upon | go_back | (simp only [Int.not_lt, Int.not_le] at *; go_simp))
  obtain ⟨WS, hWS⟩ : ∃ WS, WS = (((w1.setCell ⟨w.heap.size, 0, none⟩ (.int .u64 (p0 : Int))).setCell ⟨w.heap.size, 1, none⟩ (.int .u64 (p1 : Int))).setCell ⟨w.heap.size, 2, none⟩ (.int .u64 (p2 : Int))).setCell ⟨w.heap.size, 3, none⟩ (.int .u64 (p3 : Int)) := ⟨_, rfl⟩
  rw [← hWS]
  have z2 : WS.heap[w.heap.size]? = some (.cells #[.int .u64 (p0 : Int), .int .u64 (p1 : Int), .int .u64 (p2 : Int), .int .u64 (p3 : Int)] 46 (0, 0)) := by rw [hWS]; exact set4_new r2
  have z4 : WS.heap[(w.heap.size + 1)]? = some (.cells #[.int .u64 0, .int .u64 0, .int .u64 0, .int .u64 0] 46 (0, 0)) := by rw [hWS]; exact (set4_old (by omega)).trans r4
  have B : Below w.heap.size w WS := by rw [hWS]; go_grown
  clear hWS x0 x1 x2 x3 y0 y1 y2 y3 f0 f1 f2 f3 r2 r4 yf
  have sz := B.size
  have lt2 := lt_of_block z2
  have lt4 := lt_of_block z4
  obtain ⟨x0, x1, x2, x3, xf⟩ := block_cells4 z2
  obtain ⟨y0, y1, y2, y3, yf⟩ := block_cells4 z4
  have f0 := xf 0
  have e0 := yf 0
  have e1 := yf 1
  have e2 := yf 2
  have e3 := yf 3
  clear xf yf z2 z4
  go_wp2_with fail
  refine bodyPost_ret (v := .agg #[.int .u64 (p0' : Int), .int .u64 (p1 : Int), .int .u64 (p2 : Int), .int .u64 (p3 : Int)]) (by simp [results, Try.results21, go_sem, x0, x1, x2, x3, y0, y1, y2, y3]) rfl ⟨rfl, by go_grown⟩
set_option maxRecDepth 100000 in
theorem known_any (w : World) :
    Calls Try.prog 20 #[] w fun e w' => e = .returned (.agg #[.int .u64 506097522914230528, .int .u64 1084818905618843912]) ∧ Below w.heap.size w w' := by
  go_enter Try.func20, Try.ntmps20
  go_wp2
  refine bodyPost_ret (v := .agg #[.int .u64 506097522914230528, .int .u64 1084818905618843912]) (by simp [results, Try.results20, go_sem]) rfl ⟨rfl, by go_grown⟩
/-- The cells of what keeps the words, the rest, the count. -/
def hashC (s : St) (r0 r1 r2 r3 r4 r5 r6 r7 : UInt8) (n : Int) : Array Value := #[.int .u64 (s.a : Int), .int .u64 (s.b : Int), .int .u64 (s.c : Int), .int .u64 (s.d : Int), bv r0, bv r1, bv r2, bv r3, bv r4, bv r5, bv r6, bv r7, .int .i64 n]
set_option maxRecDepth 100000 in
theorem new_any (k0 k1 : Nat) (h0 : k0 < 18446744073709551616) (h1 : k1 < 18446744073709551616) (w : World) :
    Calls Try.prog 12 #[.agg #[.int .u64 (k0 : Int), .int .u64 (k1 : Int)]] w fun e w' => ∃ B, e = .returned (.pointer (some ⟨B, 0, none⟩)) ∧ w.heap.size ≤ B ∧ w'.heap[B]? = some (.cells (hashC (initN k0 k1) 0 0 0 0 0 0 0 0 0) 49 (0, 0)) ∧ Below w.heap.size w w' := by
  have q1 : bits .xor .u64 8317987319222330741 (k0 : Int) = (xorN 8317987319222330741 k0 : Int) := xor_is (by decide) h0
  have q2 : bits .xor .u64 7237128888997146477 (k1 : Int) = (xorN 7237128888997146477 k1 : Int) := xor_is (by decide) h1
  have q3 : bits .xor .u64 7816392313619706465 (k0 : Int) = (xorN 7816392313619706465 k0 : Int) := xor_is (by decide) h0
  have q4 : bits .xor .u64 8387220255154660723 (k1 : Int) = (xorN 8387220255154660723 k1 : Int) := xor_is (by decide) h1
  unfold initN hashC
  simp only []
  generalize xorN 8317987319222330741 k0 = x1 at q1 ⊢
  generalize xorN 7237128888997146477 k1 = x2 at q2 ⊢
  generalize xorN 7816392313619706465 k0 = x3 at q3 ⊢
  generalize xorN 8387220255154660723 k1 = x4 at q4 ⊢
  go_enter Try.func12, Try.ntmps12
  go_wp2
  go_ret
  exact ⟨_, rfl, by go_size, (two_allocs w _ _).2.1, by go_grown⟩
set_option maxRecDepth 100000 in
theorem count_any (B : Nat) (s : St) (r0 r1 r2 r3 r4 r5 r6 r7 : UInt8) (n : Int) (w : World) (h : w.heap[B]? = some (.cells (hashC s r0 r1 r2 r3 r4 r5 r6 r7 n) 49 (0, 0))) :
    Calls Try.prog 15 #[.pointer (some ⟨B, 0, none⟩)] w fun e w' => e = .returned (.int .i64 n) ∧ w = w' := by
  have x := block_cell h 12
  simp only [hashC] at x
  have x12 : w.cell? ⟨B, 12, none⟩ = some (.int .i64 n) := x
  clear x
  go_enter Try.func15, Try.ntmps15
  go_wp2
  go_ret
  exact ⟨rfl, rfl⟩
end Go.Proofs.Ytfejjmodkjpmfaa
