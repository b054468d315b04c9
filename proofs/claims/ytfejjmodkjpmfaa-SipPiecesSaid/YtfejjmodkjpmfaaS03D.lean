/- What is taken in, byte by byte. -/
import Derived.Test.YtfejjmodkjpmfaaS03B
import Derived.Test.YtfejjmodkjpmfaaRegT
import Derived.RegionTactic
namespace Go.Proofs.Ytfejjmodkjpmfaa
open Go.RowKit
set_option linter.unusedVariables false
set_option linter.unusedSimpArgs false
/-- A slice of bytes that is read, its cells not in block B. -/
def RdN (w : World) (v : Value) (l : List UInt8) (B : Nat) : Prop :=
  ∃ ao cap, v = .slice ao l.length cap ∧ l.length ≤ cap ∧ cap ≤ maxLen ∧ (ao = none → cap = 0) ∧
    (0 < l.length → ∃ b off, ao = some ⟨b, off, none⟩ ∧ b ≠ B ∧ b < w.heap.size ∧ ∀ i, i < l.length → w.cell? ⟨b, off + i, none⟩ = some (bv (l.getD i 0)))
theorem Rd.apart {w : World} {v : Value} {l : List UInt8} (h : Rd w v l) : RdN w v l w.heap.size := by
  obtain ⟨ao, cap, h1, h2, h3, h4, h5⟩ := h
  refine ⟨ao, cap, h1, h2, h3, h4, fun hl => ?_⟩
  obtain ⟨b, off, h6, h7, h8⟩ := h5 hl
  exact ⟨b, off, h6, by omega, h7, h8⟩
theorem set4_13 {w : World} {B : Nat} {a0 a1 a2 a3 a4 a5 a6 a7 a8 a9 a10 a11 a12 u0 u1 u2 u3 : Value} {t : TypeId} (h : w.heap[B]? = some (.cells #[a0, a1, a2, a3, a4, a5, a6, a7, a8, a9, a10, a11, a12] t (0, 0))) :
    ((((w.setCell ⟨B, 0, none⟩ u0).setCell ⟨B, 1, none⟩ u1).setCell ⟨B, 2, none⟩ u2).setCell ⟨B, 3, none⟩ u3).heap[B]? = some (.cells #[u0, u1, u2, u3, a4, a5, a6, a7, a8, a9, a10, a11, a12] t (0, 0)) := by
  simpa using set_at (i := 3) (u := u3) (set_at (i := 2) (u := u2) (set_at (i := 1) (u := u1) (set_at (i := 0) (u := u0) h)))
theorem le8_lt8 (r0 r1 r2 r3 r4 r5 r6 r7 : UInt8) : le8 [r0, r1, r2, r3, r4, r5, r6, r7] < 18446744073709551616 := by
  have h := le8_lt [r0, r1, r2, r3, r4, r5, r6, r7]
  rw [show [r0, r1, r2, r3, r4, r5, r6, r7].length = 8 from rfl] at h
  exact h
theorem feed_take (x : St × List UInt8) (n k : Nat) (l : List UInt8) (hk : k < l.length) (y : St × List UInt8) (h : feed x n (l.take k) = y) : feed x n (l.take (k + 1)) = put1 y (n + k) (l.getD k 0) := by
  have e : l.take (k + 1) = l.take k ++ [l.getD k 0] := by
    rw [List.take_add_one]; simp [List.getD, hk]
  rw [e, feed_snoc, h]
  simp; congr 1; omega
set_option maxRecDepth 100000 in
set_option maxHeartbeats 2000000 in
theorem add_any (B : Nat) (s0 : St) (hs : s0.Ok) (p0 p1 p2 p3 p4 p5 p6 p7 : UInt8) (n : Nat) (v : Value) (l : List UInt8) (hn : n + l.length ≤ 1000000) (w : World) (h : w.heap[B]? = some (.cells (hashC s0 p0 p1 p2 p3 p4 p5 p6 p7 (n : Int)) 49 (0, 0))) (hv : RdN w v l B) :
    Calls Try.prog 13 #[.pointer (some ⟨B, 0, none⟩), v] w fun e w' => e = .returned (.tuple #[]) ∧ ∃ s r0 r1 r2 r3 r4 r5 r6 r7, feed (s0, [p0, p1, p2, p3, p4, p5, p6, p7]) n l = (s, [r0, r1, r2, r3, r4, r5, r6, r7]) ∧ s.Ok ∧ w'.heap[B]? = some (.cells (hashC s r0 r1 r2 r3 r4 r5 r6 r7 ((n + l.length : Nat) : Int)) 49 (0, 0)) ∧ w.grownBy w' (some B) := by
  obtain ⟨ao, cap, rfl, hl, hcap, hnone, hx⟩ := hv
  unfold maxLen at hcap
  have HX := Lib.hid hx
  clear hx hnone
  have ltB := lt_of_block h
  have HH := Lib.hid h
  clear h
  go_enter Try.func13, Try.ntmps13
  go_wp2_with fail
  go_loopw [8] (fun i wr => ∃ (k : Nat) (s : St) (r0 r1 r2 r3 r4 r5 r6 r7 : UInt8), i = .int .i64 (k : Int) ∧ k ≤ l.length ∧ Hid (feed (s0, [p0, p1, p2, p3, p4, p5, p6, p7]) n (l.take k) = (s, [r0, r1, r2, r3, r4, r5, r6, r7])) ∧ Hid s.Ok ∧ w.grownBy wr (some B) ∧ Hid (wr.heap[B]? = some (.cells (hashC s r0 r1 r2 r3 r4 r5 r6 r7 ((n + k : Nat) : Int)) 49 (0, 0))))
    (fun i _ => l.length - (intOf i).toNat)
  case atStart => exact ⟨0, s0, p0, p1, p2, p3, p4, p5, p6, p7, rfl, by omega, rfl, hs, grown_reflB, HH⟩
  case round =>
    obtain ⟨k, s, r0, r1, r2, r3, r4, r5, r6, r7, rfl, hk, HF, HOK, hg, HB⟩ := hrel
    have sg := hg.size
    by_cases hlt : k < l.length
    · obtain ⟨bk, off, rfl, hne, hbk, hcell⟩ := HX.out (by omega)
      have hcc : wr.cell? ⟨bk, off + k, none⟩ = some (bv (l.getD k 0)) := by
        have e := hg.block bk hbk (by simp; first | exact hne | exact fun e => hne e.symm)
        have c := hcell k hlt
        unfold World.cell? at c ⊢
        simp only [] at c ⊢
        rw [e]; exact c
      have FT := feed_take _ n k l hlt _ HF.out
      obtain ⟨x, ex⟩ : ∃ x, x = l.getD k 0 := ⟨_, rfl⟩
      rw [← ex] at hcc FT
      obtain ⟨c, hc⟩ : ∃ c, x.toNat = c := ⟨_, rfl⟩
      have hc256 : c < 256 := by rw [← hc]; exact x.toNat_lt
      have hbv : bv x = .int .u8 (c : Int) := by rw [bv, hc]
      rw [bv, hc] at hcc
      have HBV := Lib.hid hbv
      clear hbv hc ex hcell HF
      have rb := HB.out
      have ltr := lt_of_block rb
      obtain ⟨N, eN⟩ : ∃ N, N = n + k := ⟨_, rfl⟩
      rw [← eN] at rb FT
      have hN : N ≤ 1000000 := by omega
      have EN := Lib.hid eN
      clear eN
      unfold hashC bv at rb
      obtain ⟨b0, b1, b2, b3, b4, b5, b6, b7, b8, b9, b10, b11, b12, bf⟩ := block_cells13 rb
      have bf12 := bf 12
      have hj8 : N % 8 = 0 ∨ N % 8 = 1 ∨ N % 8 = 2 ∨ N % 8 = 3 ∨ N % 8 = 4 ∨ N % 8 = 5 ∨ N % 8 = 6 ∨ N % 8 = 7 := by omega
      rcases hj8 with hj | hj | hj | hj | hj | hj | hj | hj
      · have hj1 : (N : Int) % 8 = 0 := by omega
        have hj2 : ((N : Int) + 1) % 8 = 1 := by omega
        have bfj := bf 4
        unfold put1 at FT
        simp only [hj, List.set_cons_zero, List.set_cons_succ, Nat.reduceEqDiff, if_true, if_false] at FT
        have FT' := Lib.hid FT
        clear FT bf
        go_wp2_with fail
        go_region
        go_wp2_with fail
        refine ⟨⟨k + 1, s, x, r1, r2, r3, r4, r5, r6, r7, by simp <;> omega, by omega, FT', HOK, ?_, Lib.hid ?_⟩, by simp [intOf]; omega⟩
        · exact grown_setB (grown_drewB (grown_setB hg))
        · have z := set_at (i := 12) (u := .int .i64 ((N : Int) + 1)) (set_at (i := 4) (u := .int .u8 (c : Int)) rb)
          unfold hashC
          rw [HBV.out]
          unfold bv
          rw [show ((n + (k + 1) : Nat) : Int) = (N : Int) + 1 from by have := EN.out; omega]
          simp at z
          exact z
      · have hj1 : (N : Int) % 8 = 1 := by omega
        have hj2 : ((N : Int) + 1) % 8 = 2 := by omega
        have bfj := bf 5
        unfold put1 at FT
        simp only [hj, List.set_cons_zero, List.set_cons_succ, Nat.reduceEqDiff, if_true, if_false] at FT
        have FT' := Lib.hid FT
        clear FT bf
        go_wp2_with fail
        go_region
        go_wp2_with fail
        refine ⟨⟨k + 1, s, r0, x, r2, r3, r4, r5, r6, r7, by simp <;> omega, by omega, FT', HOK, ?_, Lib.hid ?_⟩, by simp [intOf]; omega⟩
        · exact grown_setB (grown_drewB (grown_setB hg))
        · have z := set_at (i := 12) (u := .int .i64 ((N : Int) + 1)) (set_at (i := 5) (u := .int .u8 (c : Int)) rb)
          unfold hashC
          rw [HBV.out]
          unfold bv
          rw [show ((n + (k + 1) : Nat) : Int) = (N : Int) + 1 from by have := EN.out; omega]
          simp at z
          exact z
      · have hj1 : (N : Int) % 8 = 2 := by omega
        have hj2 : ((N : Int) + 1) % 8 = 3 := by omega
        have bfj := bf 6
        unfold put1 at FT
        simp only [hj, List.set_cons_zero, List.set_cons_succ, Nat.reduceEqDiff, if_true, if_false] at FT
        have FT' := Lib.hid FT
        clear FT bf
        go_wp2_with fail
        go_region
        go_wp2_with fail
        refine ⟨⟨k + 1, s, r0, r1, x, r3, r4, r5, r6, r7, by simp <;> omega, by omega, FT', HOK, ?_, Lib.hid ?_⟩, by simp [intOf]; omega⟩
        · exact grown_setB (grown_drewB (grown_setB hg))
        · have z := set_at (i := 12) (u := .int .i64 ((N : Int) + 1)) (set_at (i := 6) (u := .int .u8 (c : Int)) rb)
          unfold hashC
          rw [HBV.out]
          unfold bv
          rw [show ((n + (k + 1) : Nat) : Int) = (N : Int) + 1 from by have := EN.out; omega]
          simp at z
          exact z
      · have hj1 : (N : Int) % 8 = 3 := by omega
        have hj2 : ((N : Int) + 1) % 8 = 4 := by omega
        have bfj := bf 7
        unfold put1 at FT
        simp only [hj, List.set_cons_zero, List.set_cons_succ, Nat.reduceEqDiff, if_true, if_false] at FT
        have FT' := Lib.hid FT
        clear FT bf
        go_wp2_with fail
        go_region
        go_wp2_with fail
        refine ⟨⟨k + 1, s, r0, r1, r2, x, r4, r5, r6, r7, by simp <;> omega, by omega, FT', HOK, ?_, Lib.hid ?_⟩, by simp [intOf]; omega⟩
        · exact grown_setB (grown_drewB (grown_setB hg))
        · have z := set_at (i := 12) (u := .int .i64 ((N : Int) + 1)) (set_at (i := 7) (u := .int .u8 (c : Int)) rb)
          unfold hashC
          rw [HBV.out]
          unfold bv
          rw [show ((n + (k + 1) : Nat) : Int) = (N : Int) + 1 from by have := EN.out; omega]
          simp at z
          exact z
      · have hj1 : (N : Int) % 8 = 4 := by omega
        have hj2 : ((N : Int) + 1) % 8 = 5 := by omega
        have bfj := bf 8
        unfold put1 at FT
        simp only [hj, List.set_cons_zero, List.set_cons_succ, Nat.reduceEqDiff, if_true, if_false] at FT
        have FT' := Lib.hid FT
        clear FT bf
        go_wp2_with fail
        go_region
        go_wp2_with fail
        refine ⟨⟨k + 1, s, r0, r1, r2, r3, x, r5, r6, r7, by simp <;> omega, by omega, FT', HOK, ?_, Lib.hid ?_⟩, by simp [intOf]; omega⟩
        · exact grown_setB (grown_drewB (grown_setB hg))
        · have z := set_at (i := 12) (u := .int .i64 ((N : Int) + 1)) (set_at (i := 8) (u := .int .u8 (c : Int)) rb)
          unfold hashC
          rw [HBV.out]
          unfold bv
          rw [show ((n + (k + 1) : Nat) : Int) = (N : Int) + 1 from by have := EN.out; omega]
          simp at z
          exact z
      · have hj1 : (N : Int) % 8 = 5 := by omega
        have hj2 : ((N : Int) + 1) % 8 = 6 := by omega
        have bfj := bf 9
        unfold put1 at FT
        simp only [hj, List.set_cons_zero, List.set_cons_succ, Nat.reduceEqDiff, if_true, if_false] at FT
        have FT' := Lib.hid FT
        clear FT bf
        go_wp2_with fail
        go_region
        go_wp2_with fail
        refine ⟨⟨k + 1, s, r0, r1, r2, r3, r4, x, r6, r7, by simp <;> omega, by omega, FT', HOK, ?_, Lib.hid ?_⟩, by simp [intOf]; omega⟩
        · exact grown_setB (grown_drewB (grown_setB hg))
        · have z := set_at (i := 12) (u := .int .i64 ((N : Int) + 1)) (set_at (i := 9) (u := .int .u8 (c : Int)) rb)
          unfold hashC
          rw [HBV.out]
          unfold bv
          rw [show ((n + (k + 1) : Nat) : Int) = (N : Int) + 1 from by have := EN.out; omega]
          simp at z
          exact z
      · have hj1 : (N : Int) % 8 = 6 := by omega
        have hj2 : ((N : Int) + 1) % 8 = 7 := by omega
        have bfj := bf 10
        unfold put1 at FT
        simp only [hj, List.set_cons_zero, List.set_cons_succ, Nat.reduceEqDiff, if_true, if_false] at FT
        have FT' := Lib.hid FT
        clear FT bf
        go_wp2_with fail
        go_region
        go_wp2_with fail
        refine ⟨⟨k + 1, s, r0, r1, r2, r3, r4, r5, x, r7, by simp <;> omega, by omega, FT', HOK, ?_, Lib.hid ?_⟩, by simp [intOf]; omega⟩
        · exact grown_setB (grown_drewB (grown_setB hg))
        · have z := set_at (i := 12) (u := .int .i64 ((N : Int) + 1)) (set_at (i := 10) (u := .int .u8 (c : Int)) rb)
          unfold hashC
          rw [HBV.out]
          unfold bv
          rw [show ((n + (k + 1) : Nat) : Int) = (N : Int) + 1 from by have := EN.out; omega]
          simp at z
          exact z
      · have hj1 : (N : Int) % 8 = 7 := by omega
        have hj2 : ((N : Int) + 1) % 8 = 0 := by omega
        have bfj := bf 11
        unfold put1 at FT
        simp only [hj, List.set_cons_zero, List.set_cons_succ, Nat.reduceEqDiff, if_true, if_false] at FT
        have FT' := Lib.hid FT
        clear FT bf
        go_wp2_with fail
        go_region
        go_wp2_with fail
        obtain ⟨WS, hWS⟩ : ∃ WS, WS = ((wr.setCell ⟨B, 11, none⟩ (.int .u8 (c : Int))).setCell ⟨B, 12, none⟩ (.int .i64 ((N : Int) + 1))).drew := ⟨_, rfl⟩
        rw [← hWS]
        have z : WS.heap[B]? = some (.cells #[.int .u64 (s.a : Int), .int .u64 (s.b : Int), .int .u64 (s.c : Int), .int .u64 (s.d : Int), .int .u8 (r0.toNat : Int), .int .u8 (r1.toNat : Int), .int .u8 (r2.toNat : Int), .int .u8 (r3.toNat : Int), .int .u8 (r4.toNat : Int), .int .u8 (r5.toNat : Int), .int .u8 (r6.toNat : Int), .int .u8 (c : Int), .int .i64 ((N : Int) + 1)] 49 (0, 0)) := by
          rw [hWS]
          have z := set_at (i := 12) (u := .int .i64 ((N : Int) + 1)) (set_at (i := 11) (u := .int .u8 (c : Int)) rb)
          simp at z
          exact z
        have gS : w.grownBy WS (some B) := by rw [hWS]; exact grown_drewB (grown_setB (grown_setB hg))
        have ltS := lt_of_block z
        have Tw := word_any r0 r1 r2 r3 r4 r5 r6 x
        rw [HBV.out] at Tw
        unfold bv at Tw
        have hm := le8_lt8 r0 r1 r2 r3 r4 r5 r6 x
        obtain ⟨m, em⟩ : ∃ m, m = le8 [r0, r1, r2, r3, r4, r5, r6, x] := ⟨_, rfl⟩
        rw [← em] at Tw hm
        have EM := Lib.hid em
        have Tt := take_any s HOK.out m hm
        have HOK2 := Lib.hid (take_ok s HOK.out m hm)
        clear hm em hWS b0 b1 b2 b3 b4 b5 b6 b7 b8 b9 b10 b11 b12 bf12 bfj rb ltr hcc
        have FT2 := FT'.out
        rw [← EM.out] at FT2
        have FT3 := Lib.hid FT2
        clear FT2 FT'
        obtain ⟨u, eu⟩ : ∃ u, u = takeN s m := ⟨_, rfl⟩
        rw [← eu] at Tt HOK2 FT3
        clear eu
        unfold stV at Tt
        refine t_start 13 (by kernel_rfl) ?_
        refine t_take (i := 0) (d := (some 35)) (v := ?_) rfl rfl (by kernel_rfl) (fun _ _ _ h => h) (by rfl) (fun w' hb' => ?_) ?_
        rotate_left
        · (try go_simp); (try with_reducible rfl)
        try simp only [Act.put, List.setIfInBounds_toArray, List.set_cons_zero, List.set_cons_succ]
        refine t_take (i := 1) (d := (some 36)) (v := ?_) rfl rfl (by kernel_rfl) (fun _ _ _ h => h) (by rfl) (fun w' hb' => ?_) ?_
        rotate_left
        · (try go_simp); (try with_reducible rfl)
        try simp only [Act.put, List.setIfInBounds_toArray, List.set_cons_zero, List.set_cons_succ]
        refine t_take (i := 2) (d := (some 37)) (v := ?_) rfl rfl (by kernel_rfl) (fun _ _ _ h => h) (by rfl) (fun w' hb' => ?_) ?_
        rotate_left
        · (try go_simp); (try with_reducible rfl)
        try simp only [Act.put, List.setIfInBounds_toArray, List.set_cons_zero, List.set_cons_succ]
        refine t_take (i := 3) (d := (some 38)) (v := ?_) rfl rfl (by kernel_rfl) (fun _ _ _ h => h) (by rfl) (fun w' hb' => ?_) ?_
        rotate_left
        · (try go_simp); (try with_reducible rfl)
        try simp only [Act.put, List.setIfInBounds_toArray, List.set_cons_zero, List.set_cons_succ]
        refine t_take (i := 4) (d := (some 39)) (v := ?_) rfl rfl (by kernel_rfl) (fun _ _ _ h => h) (by rfl) (fun w' hb' => ?_) ?_
        rotate_left
        · have zz : w'.heap[B]? = some (.cells #[.int .u64 (s.a : Int), .int .u64 (s.b : Int), .int .u64 (s.c : Int), .int .u64 (s.d : Int), .int .u8 (r0.toNat : Int), .int .u8 (r1.toNat : Int), .int .u8 (r2.toNat : Int), .int .u8 (r3.toNat : Int), .int .u8 (r4.toNat : Int), .int .u8 (r5.toNat : Int), .int .u8 (r6.toNat : Int), .int .u8 (c : Int), .int .i64 ((N : Int) + 1)] 49 (0, 0)) := (hb'.block _ ltS).trans z; obtain ⟨b0, b1, b2, b3, b4, b5, b6, b7, b8, b9, b10, b11, b12, bf⟩ := block_cells13 zz; (try go_simp); (try with_reducible rfl)
        try simp only [Act.put, List.setIfInBounds_toArray, List.set_cons_zero, List.set_cons_succ]
        refine t_take (i := 5) (d := (some 40)) (v := ?_) rfl rfl (by kernel_rfl) (fun _ _ _ h => h) (by rfl) (fun w' hb' => ?_) ?_
        rotate_left
        · (try go_simp); (try with_reducible rfl)
        try simp only [Act.put, List.setIfInBounds_toArray, List.set_cons_zero, List.set_cons_succ]
        refine t_take (i := 6) (d := (some 41)) (v := ?_) rfl rfl (by kernel_rfl) (fun _ _ _ h => h) (by rfl) (fun w' hb' => ?_) ?_
        rotate_left
        · (try go_simp); (try with_reducible rfl)
        try simp only [Act.put, List.setIfInBounds_toArray, List.set_cons_zero, List.set_cons_succ]
        refine t_take (i := 7) (d := (some 42)) (v := ?_) rfl rfl (by kernel_rfl) (fun _ _ _ h => h) (by rfl) (fun w' hb' => ?_) ?_
        rotate_left
        · (try go_simp); (try with_reducible rfl)
        try simp only [Act.put, List.setIfInBounds_toArray, List.set_cons_zero, List.set_cons_succ]
        refine t_take (i := 8) (d := (some 43)) (v := ?_) rfl rfl (by kernel_rfl) (fun _ _ _ h => h) (by rfl) (fun w' hb' => ?_) ?_
        rotate_left
        · have zz : w'.heap[B]? = some (.cells #[.int .u64 (s.a : Int), .int .u64 (s.b : Int), .int .u64 (s.c : Int), .int .u64 (s.d : Int), .int .u8 (r0.toNat : Int), .int .u8 (r1.toNat : Int), .int .u8 (r2.toNat : Int), .int .u8 (r3.toNat : Int), .int .u8 (r4.toNat : Int), .int .u8 (r5.toNat : Int), .int .u8 (r6.toNat : Int), .int .u8 (c : Int), .int .i64 ((N : Int) + 1)] 49 (0, 0)) := (hb'.block _ ltS).trans z; obtain ⟨b0, b1, b2, b3, b4, b5, b6, b7, b8, b9, b10, b11, b12, bf⟩ := block_cells13 zz; (try go_simp); (try with_reducible rfl)
        try simp only [Act.put, List.setIfInBounds_toArray, List.set_cons_zero, List.set_cons_succ]
        refine t_run (i := 9) rfl (by kernel_rfl) (by kernel_rfl) (by rfl) (fun K hK => ?_)
        go_simp; refine (Tw _).mono ?_; rintro e w3 ⟨rfl, g⟩; refine hK _ _ ⟨g, ?_⟩; have z3 := (g.block _ (lt_of_block (w := WS.drew) z)).trans z; have gS3 := grown_belowB (grown_drewB gS) g; clear hK K g z
        try simp only [Act.put, List.setIfInBounds_toArray, List.set_cons_zero, List.set_cons_succ]
        refine t_run (i := 10) rfl (by kernel_rfl) (by kernel_rfl) (by rfl) (fun K hK => ?_)
        go_simp; refine (Tt _).mono ?_; rintro e w4 ⟨rfl, g⟩; refine hK _ _ ⟨g, ?_⟩; have z4 := (g.block _ (lt_of_block z3)).trans z3; have gS4 := grown_belowB gS3 g; clear hK K g z3
        try simp only [Act.put, List.setIfInBounds_toArray, List.set_cons_zero, List.set_cons_succ]
        refine t_take (i := 11) (d := (some 46)) (v := ?_) rfl rfl (by kernel_rfl) (fun _ _ _ h => h) (by rfl) (fun w' hb' => ?_) ?_
        rotate_left
        · (try go_simp); (try with_reducible rfl)
        try simp only [Act.put, List.setIfInBounds_toArray, List.set_cons_zero, List.set_cons_succ]
        refine t_take (i := 12) (d := (some 47)) (v := ?_) rfl rfl (by kernel_rfl) (fun _ _ _ h => h) (by rfl) (fun w' hb' => ?_) ?_
        rotate_left
        · (try go_simp); (try with_reducible rfl)
        try simp only [Act.put, List.setIfInBounds_toArray, List.set_cons_zero, List.set_cons_succ]
        refine t_last (i := 13) rfl (by kernel_rfl) (by kernel_rfl) (by kernel_rfl) (by rfl) (fun K hK => ?_)
        obtain ⟨b0, b1, b2, b3, b4, b5, b6, b7, b8, b9, b10, b11, b12, bf⟩ := block_cells13 z4; have e0 := bf 0; have e1 := bf 1; have e2 := bf 2; have e3 := bf 3; go_simp; refine hK _ _ ?_; clear hK K
        clear b0 b1 b2 b3 b4 b5 b6 b7 b8 b9 b10 b11 b12 bf e0 e1 e2 e3
        go_wp2_with fail
        refine ⟨⟨k + 1, u, r0, r1, r2, r3, r4, r5, r6, x, by simp <;> omega, by omega, FT3, HOK2, ?_, Lib.hid ?_⟩, by simp [intOf]; omega⟩
        · exact grown_setB (grown_setB (grown_setB (grown_setB gS4)))
        · have y := set4_13 (u0 := .int .u64 (u.a : Int)) (u1 := .int .u64 (u.b : Int)) (u2 := .int .u64 (u.c : Int)) (u3 := .int .u64 (u.d : Int)) z4
          unfold hashC
          rw [HBV.out]
          unfold bv
          rw [show ((n + (k + 1) : Nat) : Int) = (N : Int) + 1 from by have := EN.out; omega]
          exact y
    · obtain rfl : k = l.length := by omega
      have FT := HF.out
      rw [List.take_length] at FT
      have FH := Lib.hid FT
      clear FT HF
      have hok := HOK
      clear HOK
      go_wp2_with fail
      go_end0
      exact ⟨rfl, s, r0, r1, r2, r3, r4, r5, r6, r7, FH.out, hok.out, HB.out, hg⟩
end Go.Proofs.Ytfejjmodkjpmfaa
