/- A number's eight bytes; a pair's secret. -/
import Derived.Test.YtfejjmodkjpmfaaS03I
import Derived.Test.YtfejjmodkjpmfaaRegS
namespace Go.Proofs.Ytfejjmodkjpmfaa
open Go.RowKit
set_option linter.unusedVariables false
set_option linter.unusedSimpArgs false
def byteN (N i : Nat) : UInt8 := UInt8.ofNat (N / 256 ^ i % 256)
def e8 (N k : Nat) : List UInt8 := (List.range k).map (byteN N)
theorem e8_len (N k : Nat) : (e8 N k).length = k := by simp [e8]
theorem e8_succ (N k : Nat) : e8 N (k + 1) = e8 N k ++ [byteN N k] := by simp [e8, List.range_succ]
theorem byte_val (N i b : Nat) (h : b = N / 256 ^ i % 256) : Value.int .u8 (b : Int) = bv (byteN N i) := by
  rw [bv, byteN, UInt8.toNat_ofNat', h]; congr 1; omega
set_option maxRecDepth 100000 in
set_option maxHeartbeats 1000000 in
theorem eight_any (X : Int) (N : Nat) (hX : IntKind.u64.wrap X = (N : Int)) (hN : N < 18446744073709551616) (w : World) :
    Calls Try.prog 16 #[.int .i64 X] w fun e w' => ∃ g cap, e = .returned (.slice (some ⟨g, 0, none⟩) 8 cap) ∧ w'.ownsRow w.heap.size 5 1 (.slice (some ⟨g, 0, none⟩) 8 cap) 8 ((e8 N 8).map bv) ∧ Below w.heap.size w w' := by
  obtain ⟨i0, hi0, hz0, hz1, hz2⟩ := info_parts u8info
  have HN := Lib.hid hN
  clear hN
  go_enter Try.func16, Try.ntmps16
  go_wp2_with fail
  go_loopw [3, 4, 5] (fun x s i wr => ∃ (k y : Nat) (ao : Option Addr) (cap : Nat), x = .int .u64 (y : Int) ∧ s = .slice ao k cap ∧ i = .int .i64 (k : Int) ∧ k ≤ 8 ∧ Hid (y = N / 256 ^ k) ∧ wr.ownsRow w.heap.size 5 1 (.slice ao k cap) k ((e8 N k).map bv) ∧ Below w.heap.size w wr)
    (fun _ _ i _ => 8 - (intOf i).toNat)
  case atStart => exact ⟨0, N, none, 0, rfl, rfl, rfl, by omega, by simp [Hid], World.ownsRow_nil _ _ _ _, Below.refl _ _⟩
  case round =>
    obtain ⟨k, y, ao, cap, rfl, rfl, rfl, hk, hy, hown, B⟩ := hrel
    by_cases hlt : k < 8
    · obtain ⟨b, eb⟩ : ∃ b, b = y % 256 := ⟨_, rfl⟩
      have q1 : (y : Int) % 256 = (b : Int) := by omega
      have q2 : IntKind.u8.wrap (b : Int) = (b : Int) := by simp [IntKind.wrap, IntKind.bits, IntKind.signed]; omega
      have q3 : b < 256 := by omega
      have hbv := byte_val N k b (by rw [eb, hy.out])
      obtain ⟨y', ey⟩ : ∃ y', y' = y / 256 := ⟨_, rfl⟩
      have q4 : (y : Int) / 256 = (y' : Int) := by omega
      have hy' : y' = N / 256 ^ (k + 1) := by rw [ey, hy.out, Nat.div_div_eq_div_mul, Nat.pow_succ]
      have q5 : IntKind.u64.wrap (y' : Int) = (y' : Int) := by
        have : y' ≤ N := by rw [hy']; exact Nat.div_le_self _ _
        have := HN.out
        rw [IntKind.wrap_u64]; omega
      have HB := Lib.hid hbv
      have HY := Lib.hid hy'
      clear hbv hy' eb ey hy
      go_wp2_with (at_builtin; go_loud (refine wpList_app1 w rfl _ _ 25 rfl w.heap.size 5 i0 (.int .u8 0) 1 Try.underlying25 hi0 hz0 hz1 hz2 rfl _ _ _ rfl hown _ _ rfl rfl (by unfold maxLen; omega) (by omega) (Nat.le_refl _) B ?_); intro v' w2 hown' hb')
      rw [HB.out, show [bv (byteN N k)] = List.map bv [byteN N k] from rfl, ← List.map_append, ← e8_succ] at hown'
      obtain ⟨ao', cap', rfl, _, _⟩ := slice_shape hown'
      exact ⟨⟨k + 1, y', ao', cap', rfl, rfl, by push_cast; rfl, by omega, HY, hown', hb'⟩, by simp [intOf]; omega⟩
    · obtain rfl : k = 8 := by omega
      obtain ⟨g, cp, e, _, _⟩ := slice_of_own hown (by omega)
      injection e with e1 e2 e3
      subst e1
      subst e3
      have HO := Lib.hid hown
      clear hown
      go_wp2_with fail
      go_ret
      exact ⟨g, cap, rfl, HO.out, B⟩
theorem shift_byte (N k : Nat) (hN : N < 18446744073709551616) : ∃ y b : Nat, (N : Int) / 2 ^ (8 * k) = (y : Int) ∧ y < 18446744073709551616 ∧ b < 256 ∧ b = y % 256 ∧ y = N / 256 ^ k ∧ IntKind.u8.wrap (y : Int) = (b : Int) := by
  refine ⟨N / 256 ^ k, N / 256 ^ k % 256, ?_, Nat.lt_of_le_of_lt (Nat.div_le_self _ _) hN, by omega, rfl, rfl, ?_⟩
  · rw [show (256 : Nat) = 2 ^ 8 from rfl, ← Nat.pow_mul]
    push_cast
    rfl
  · simp [IntKind.wrap, IntKind.bits, IntKind.signed]
def preL (F T : Nat) : Nat → List UInt8
  | 0 => []
  | 1 => e8 F 8
  | _ => e8 F 8 ++ e8 T 8
theorem iy0 (a0 a1 : Value) (w : World) : (Instr.index 53 (.agg #[a0, a1]) (.int .i64 0)).run Try.prog w = .ok a0 w := by kernel_rfl
theorem iy1 (a0 a1 : Value) (w : World) : (Instr.index 53 (.agg #[a0, a1]) (.int .i64 1)).run Try.prog w = .ok a1 w := by kernel_rfl
set_option maxRecDepth 100000 in
set_option maxHeartbeats 2000000 in
theorem pair_any (k0 k1 : Nat) (h0 : k0 < 18446744073709551616) (h1 : k1 < 18446744073709551616) (X Y : Int) (F T : Nat) (hX : IntKind.u64.wrap X = (F : Int)) (hF : F < 18446744073709551616) (hY : IntKind.u64.wrap Y = (T : Int)) (hT : T < 18446744073709551616) (w : World) :
    Calls Try.prog 17 #[.agg #[.int .u64 (k0 : Int), .int .u64 (k1 : Int)], .int .i64 X, .int .i64 Y] w fun e w' => e = .returned (.agg #[.int .u64 (sipN k0 k1 (e8 F 8 ++ e8 T 8) : Int), .int .u64 (sipN k0 k1 (e8 F 8 ++ e8 T 8 ++ [0]) : Int)]) ∧ Below w.heap.size w w' := by
  have St := fun v l hl w hd => sip_any k0 k1 h0 h1 v l hl w hd
  obtain ⟨i0, hi0, hz0, hz1, hz2⟩ := info_parts u8info
  have HF := Lib.hid hF
  have HT := Lib.hid hT
  clear hF hT h0 h1
  have j0 := iy0 (.int .i64 X) (.int .i64 Y)
  have j1 := iy1 (.int .i64 X) (.int .i64 Y)
  go_enter Try.func17, Try.ntmps17
  go_wp2_with fail
  have z3 : ((w.alloc (.cells #[.int .u64 (k0 : Int), .int .u64 (k1 : Int)] 24)).alloc (.cells #[.int .u64 0, .int .u64 0] 24)).heap[w.heap.size]? = some (.cells #[.int .u64 (k0 : Int), .int .u64 (k1 : Int)] 24 (0, 0)) := (two_allocs w _ _).1
  have z6 : ((w.alloc (.cells #[.int .u64 (k0 : Int), .int .u64 (k1 : Int)] 24)).alloc (.cells #[.int .u64 0, .int .u64 0] 24)).heap[w.heap.size + 1]? = some (.cells #[.int .u64 0, .int .u64 0] 24 (0, 0)) := (two_allocs w _ _).2.1
  have B0 : Below w.heap.size w ((w.alloc (.cells #[.int .u64 (k0 : Int), .int .u64 (k1 : Int)] 24)).alloc (.cells #[.int .u64 0, .int .u64 0] 24)) := by go_grown
  generalize (w.alloc (.cells #[.int .u64 (k0 : Int), .int .u64 (k1 : Int)] 24)).alloc (.cells #[.int .u64 0, .int .u64 0] 24) = w0 at z3 z6 B0 ⊢
  go_loopw [7, 14] (fun s i wr => ∃ (q : Nat) (ao : Option Addr) (cap : Nat), s = .slice ao (8 * q) cap ∧ i = .int .i64 (q : Int) ∧ q ≤ 2 ∧ wr.ownsRow w0.heap.size 5 1 (.slice ao (8 * q) cap) (8 * q) ((preL F T q).map bv) ∧ Below w0.heap.size w0 wr)
    (fun _ i _ => 2 - (intOf i).toNat)
  case atStart => exact ⟨0, none, 0, rfl, rfl, by omega, World.ownsRow_nil _ _ _ _, Below.refl _ _⟩
  case round =>
    obtain ⟨q, ao, cap, rfl, rfl, hq, hown, B⟩ := hrel
    by_cases hlt : q < 2
    · skip
      have key : ∃ (N : Nat) (Z : Int), N < 18446744073709551616 ∧ IntKind.u64.wrap Z = (N : Int) ∧ (∀ w : World, (Instr.index 53 (.agg #[.int .i64 X, .int .i64 Y]) (.int .i64 (q : Int))).run Try.prog w = .ok (.int .i64 Z) w) ∧ preL F T (q + 1) = preL F T q ++ e8 N 8 := by
        have h2 : q = 0 ∨ q = 1 := by omega
        rcases h2 with rfl | rfl
        · exact ⟨F, X, HF.out, hX, j0, by simp [preL]⟩
        · exact ⟨T, Y, HT.out, hY, j1, rfl⟩
      obtain ⟨N, Z, hN, hZ, hix, hpre⟩ := key
      have HN := Lib.hid hN
      have HP := Lib.hid hpre
      clear hN hpre j0 j1 hX hY
      have hd : decide ((q : Int) < 2) = true := by simp; omega
      go_wp2_with fail
      go_loopw [7, 17] (fun s i wr => ∃ (k : Nat) (ao : Option Addr) (cap : Nat), s = .slice ao (8 * q + k) cap ∧ i = .int .i64 (k : Int) ∧ k ≤ 8 ∧ wr.ownsRow w0.heap.size 5 1 (.slice ao (8 * q + k) cap) (8 * q + k) ((preL F T q ++ e8 N k).map bv) ∧ Below w0.heap.size w0 wr)
        (fun _ i _ => 8 - (intOf i).toNat)
      case atStart => exact ⟨0, ao, cap, rfl, rfl, by omega, by simpa [e8] using hown, B⟩
      case round =>
        clear hown B
        obtain ⟨k, ao, cap, rfl, rfl, hk, hown, B⟩ := hrel
        obtain ⟨L, eL⟩ : ∃ L, L = 8 * q + k := ⟨_, rfl⟩
        rw [← eL] at hown ⊢
        by_cases hk8 : k < 8
        · obtain ⟨y, b, s1, s2, s3, s4, s5, s6⟩ := shift_byte N k HN.out
          have hbv := byte_val N k b (by rw [s4, s5])
          have HB := Lib.hid hbv
          have hL : L ≤ 16 := by omega
          have EL := Lib.hid eL
          clear hbv s2 s4 s5 eL
          go_wp2_with (at_builtin; go_loud (refine wpList_app1 w0 rfl _ _ 25 rfl w0.heap.size 5 i0 (.int .u8 0) 1 Try.underlying25 hi0 hz0 hz1 hz2 rfl _ _ _ rfl hown _ _ rfl rfl (by unfold maxLen; omega) (by omega) (Nat.le_refl _) B ?_); intro v' w2 hown' hb')
          rw [HB.out, show [bv (byteN N k)] = List.map bv [byteN N k] from rfl, ← List.map_append, List.append_assoc, ← e8_succ] at hown'
          obtain ⟨ao', cap', rfl, _, _⟩ := slice_shape hown'
          have e1 : L + 1 = 8 * q + (k + 1) := by have := EL.out; omega
          rw [e1] at hown' ⊢
          exact ⟨⟨k + 1, ao', cap', rfl, by push_cast; rfl, by omega, hown', hb'⟩, by simp [intOf]; omega⟩
        · obtain rfl : k = 8 := by omega
          rw [← HP.out] at hown
          have eL2 : L = 8 * (q + 1) := by omega
          rw [eL2] at hown ⊢
          clear eL eL2
          go_wp2_with fail
          exact ⟨⟨q + 1, ao, cap, rfl, by push_cast; rfl, by omega, hown, B⟩, by simp [intOf]; omega⟩
    · obtain rfl : q = 2 := by omega
      obtain ⟨g, cp, e, hcp1, hcp2⟩ := slice_of_own hown (by omega)
      injection e with e1 e2 e3
      subst e1
      subst e3
      have hpre : preL F T 2 = e8 F 8 ++ e8 T 8 := rfl
      rw [hpre] at hown
      obtain ⟨m, em⟩ : ∃ m, m = e8 F 8 ++ e8 T 8 := ⟨_, rfl⟩
      have hml : m.length = 16 := by rw [em]; simp [e8_len]
      rw [← em] at hown
      obtain ⟨s1, es1⟩ : ∃ s, s = sipN k0 k1 m := ⟨_, rfl⟩
      obtain ⟨s2, es2⟩ : ∃ s, s = sipN k0 k1 (m ++ [0]) := ⟨_, rfl⟩
      have St1 := fun v w hd => St v m (by omega) w hd
      have St2 := fun v w hd => St v (m ++ [0]) (by simp; omega) w hd
      rw [← es1] at St1
      rw [← es2] at St2
      have ES1 := Lib.hid es1
      have ES2 := Lib.hid es2
      have EM := Lib.hid em
      clear St em hpre es1 es2 j0 j1 hX hY
      have sB := B.size
      have hz3 : wr.drew.heap[w.heap.size]? = some (.cells #[.int .u64 (k0 : Int), .int .u64 (k1 : Int)] 24 (0, 0)) := (B.block _ (lt_of_block z3)).trans z3
      have hz6 : wr.drew.heap[w.heap.size + 1]? = some (.cells #[.int .u64 0, .int .u64 0] 24 (0, 0)) := (B.block _ (lt_of_block z6)).trans z6
      have lt3 := lt_of_block z3
      have lt6 := lt_of_block z6
      have hg := hown.lt g rfl
      have hown : wr.drew.ownsRow w0.heap.size 5 1 (.slice (some ⟨g, 0, none⟩) (8 * 2) cap) (8 * 2) (m.map bv) := hown.drew
      have Bw : Below w.heap.size w wr := B0.trans (B.mono B0.size)
      unfold maxLen at hcp2
      go_wp2_with fail
      have hS : Two wr.drew wr.drew g (w.heap.size + 1) := Two.refl _ _ _
      have hy6 := hz6
      refine gs_start (S := fun w' => Two wr.drew w' g (w.heap.size + 1)) (by kernel_rfl) ?_
      refine gs_take (i := 0) (d := (some 31)) (v := ?_) rfl rfl (by kernel_rfl) (fun _ _ _ h => h) (by rfl) hS (fun w' hb' => ?_) ?_
      rotate_left
      · have zz : w'.heap[w.heap.size]? = some (.cells #[.int .u64 (k0 : Int), .int .u64 (k1 : Int)] 24 (0, 0)) := (hb'.block _ (lt_of_block hz3) (by omega) (by omega)).trans hz3; obtain ⟨c0, c1, cf⟩ := block_cells2 zz; (try go_simp); (try with_reducible rfl)
      try simp only [Act.put, List.setIfInBounds_toArray, List.set_cons_zero, List.set_cons_succ]
      refine gs_take (i := 1) (d := (some 32)) (v := ?_) rfl rfl (by kernel_rfl) (fun _ _ _ h => h) (by rfl) hS (fun w' hb' => ?_) ?_
      rotate_left
      · (try go_simp); (try with_reducible rfl)
      try simp only [Act.put, List.setIfInBounds_toArray, List.set_cons_zero, List.set_cons_succ]
      refine gs_take (i := 3) (d := (some 34)) (v := ?_) rfl rfl (by kernel_rfl) (fun _ _ _ h => h) (by rfl) hS (fun w' hb' => ?_) ?_
      rotate_left
      · have zz : w'.heap[w.heap.size]? = some (.cells #[.int .u64 (k0 : Int), .int .u64 (k1 : Int)] 24 (0, 0)) := (hb'.block _ (lt_of_block hz3) (by omega) (by omega)).trans hz3; obtain ⟨c0, c1, cf⟩ := block_cells2 zz; (try go_simp); (try with_reducible rfl)
      try simp only [Act.put, List.setIfInBounds_toArray, List.set_cons_zero, List.set_cons_succ]
      refine gs_take (i := 4) (d := (some 35)) (v := ?_) rfl rfl (by kernel_rfl) (fun _ _ _ h => h) (by rfl) hS (fun w' hb' => ?_) ?_
      rotate_left
      · (try go_simp); (try with_reducible rfl)
      try simp only [Act.put, List.setIfInBounds_toArray, List.set_cons_zero, List.set_cons_succ]
      refine gs_run2 (i := 2) (k := 5) rfl rfl (by kernel_rfl) (by rfl) (by rfl) (fun K hK => ?_) (fun K hK => ?_)
      · skip
        go_simp
        refine (St1 _ _ (own_rd hown)).mono ?_
        rintro e v1 ⟨rfl, gg⟩
        have hS := hS.below gg
        have hy6 := (gg.block _ (lt_of_block hy6)).trans hy6
        have hown := hown.kept (below_grown0 gg) (.inr (by simp [Value.ownBlock]))
        (try have hz9 := (gg.block _ (lt_of_block hz9)).trans hz9)
        refine hK _ _ ⟨hS, ?_⟩
        clear hK K gg
        try simp only [Act.put, List.setIfInBounds_toArray, List.set_cons_zero, List.set_cons_succ]
        refine gs_run (i := 5) rfl (by kernel_rfl) (by rfl) (fun K hK => ?_)
        go_simp
        have hgn : g < v1.heap.size := Nat.lt_of_lt_of_le hg.2 hS.size
        have hS2 : Two wr.drew (World.alloc v1 (.cells #[.int .u8 0] 5)) g (w.heap.size + 1) := hS.below ((Below.refl _ _).alloc (Nat.le_refl _) _)
        refine hK _ _ ⟨hS2, ?_⟩
        clear hK K
        obtain ⟨WA2, hWA⟩ : ∃ W, W = World.alloc v1 (.cells #[.int .u8 0] 5) := ⟨_, rfl⟩
        rw [← hWA]
        rw [← hWA] at hS2
        have hS := hS2
        have hz9 : WA2.heap[v1.heap.size]? = some (.cells #[.int .u8 0] 5 (0, 0)) := (by subst hWA; exact heap_alloc_new v1 _)
        have hy6 : WA2.heap[w.heap.size + 1]? = some (.cells #[.int .u64 0, .int .u64 0] 24 (0, 0)) := (by subst hWA; exact (heap_alloc_old v1 _ (lt_of_block hy6)).trans hy6)
        have hown : WA2.ownsRow w0.heap.size 5 1 (.slice (some ⟨g, 0, none⟩) (8 * 2) cap) (8 * 2) (m.map bv) := (by subst hWA; exact hown.alloc _)
        generalize v1.heap.size = nb at hz9 hgn ⊢
        clear hWA hS2
        try simp only [Act.put, List.setIfInBounds_toArray, List.set_cons_zero, List.set_cons_succ]
        refine gs_run (i := 6) rfl (by kernel_rfl) (by rfl) (fun K hK => ?_)
        have hcn : WA2.cell? ⟨nb, 0, none⟩ = some (.int .u8 0) := by rw [block_cell hz9]; rfl
        refine wp_append_own WA2 (.tmp 35) (.tmp 36) 25 rfl w0.heap.size 5 i0 (.int .u8 0) 1 1 Try.underlying25 hi0 hz0 hz1 hz2 rfl (by decide) _ (8 * 2) (m.map bv) rfl hown ⟨nb, 0, none⟩ 1 1 [.int .u8 0] rfl rfl (by intro j u hj; match j, hj with | 0, hj => (simp at hj; subst hj; exact hcn) | j + 1, hj => simp at hj) (by intro u hu; simp at hu; subst hu; rfl) (by unfold maxLen; omega) (by omega) (by have := hS.size; have : w0.heap.size ≤ wr.drew.heap.size := sB; omega) ?_
        intro v2 v3 hown2 hgr _
        have hS := hS.grown hgr
        have hy6 := (hgr.block _ (lt_of_block hy6) (fun e => by first | (change some (w.heap.size + 1) = some g at e; injection e with e; omega) | (change some g = some (w.heap.size + 1) at e; injection e with e; omega))).trans hy6
        rw [show (m.map bv ++ [Value.int .u8 0]) = (m ++ [0]).map bv from by rw [List.map_append]; rfl] at hown2
        obtain ⟨g2, cp2, rfl, _, _⟩ := slice_of_own hown2 (by omega)
        refine hK _ _ ⟨hS, ?_⟩
        clear hK K hgr hcn hz9 hown
        try simp only [Act.put, List.setIfInBounds_toArray, List.set_cons_zero, List.set_cons_succ]
        refine gs_run (i := 7) rfl (by kernel_rfl) (by rfl) (fun K hK => ?_)
        go_simp
        refine (St2 _ _ (own_rd hown2)).mono ?_
        rintro e v4 ⟨rfl, gg⟩
        have hS := hS.below gg
        have hy6 := (gg.block _ (lt_of_block hy6)).trans hy6
        refine hK _ _ ⟨hS, ?_⟩
        clear hK K gg
        try simp only [Act.put, List.setIfInBounds_toArray, List.set_cons_zero, List.set_cons_succ]
        refine gs_run (i := 8) rfl (by kernel_rfl) (by rfl) (fun K hK => ?_)
        go_simp
        refine hK _ _ ⟨hS, ?_⟩
        clear hK K
        try simp only [Act.put, List.setIfInBounds_toArray, List.set_cons_zero, List.set_cons_succ]
        refine gs_run (i := 9) rfl (by kernel_rfl) (by rfl) (fun K hK => ?_)
        obtain ⟨c0, c1, cf⟩ := block_cells2 hy6
        have e0 := cf 0
        have e1 := cf 1
        go_simp
        refine hK _ _ ⟨hS.grown2 (grown_setB (i := 1) (u := .int .u64 (s2 : Int)) (grown_setB (i := 0) (u := .int .u64 (s1 : Int)) grown_reflB)), ?_⟩
        clear hK K c0 c1 cf e0 e1
        try simp only [Act.put, List.setIfInBounds_toArray, List.set_cons_zero, List.set_cons_succ]
        refine gs_done (by kernel_rfl) ?_
        have f6 := lt_of_block hy6
        obtain ⟨c0, c1, cf⟩ := block_cells2 hy6
        have e0 := cf 0
        have e1 := cf 1
        go_wp2_with fail
        have hT := hS.grown2 (grown_setB (i := 1) (u := .int .u64 (s2 : Int)) (grown_setB (i := 0) (u := .int .u64 (s1 : Int)) grown_reflB))
        refine bodyPost_ret (v := .agg #[.int .u64 (s1 : Int), .int .u64 (s2 : Int)]) (by simp [results, Try.results17, go_sem, c0, c1]) rfl ⟨?_, ?_⟩
        · rw [← EM.out, ← ES1.out, ← ES2.out]
        · exact ⟨hT.os.trans Bw.os, hT.tape.trans Bw.tape, hT.output.trans Bw.output, Nat.le_trans Bw.size hT.size, fun k hk => (hT.block k (Nat.lt_of_lt_of_le hk Bw.size) (by omega) (by omega)).trans (Bw.block k hk)⟩
      · skip
        go_simp
        have hgn : g < wr.heap.size := Nat.lt_of_lt_of_le hg.2 hS.size
        have hS2 : Two wr.drew (World.drew (World.alloc wr (.cells #[.int .u8 0] 5))) g (w.heap.size + 1) := hS.below ((Below.refl _ _).alloc (Nat.le_refl _) _)
        refine hK _ _ ⟨hS2, ?_⟩
        clear hK K
        obtain ⟨WA7, hWA⟩ : ∃ W, W = World.drew (World.alloc wr (.cells #[.int .u8 0] 5)) := ⟨_, rfl⟩
        rw [← hWA]
        rw [← hWA] at hS2
        have hS := hS2
        have hz9 : WA7.heap[wr.heap.size]? = some (.cells #[.int .u8 0] 5 (0, 0)) := (by subst hWA; exact heap_alloc_new wr _)
        have hy6 : WA7.heap[w.heap.size + 1]? = some (.cells #[.int .u64 0, .int .u64 0] 24 (0, 0)) := (by subst hWA; exact (heap_alloc_old wr _ (lt_of_block hy6)).trans hy6)
        have hown : WA7.ownsRow w0.heap.size 5 1 (.slice (some ⟨g, 0, none⟩) (8 * 2) cap) (8 * 2) (m.map bv) := (by subst hWA; exact hown.alloc _)
        generalize wr.heap.size = nb at hz9 hgn ⊢
        clear hWA hS2
        try simp only [Act.put, List.setIfInBounds_toArray, List.set_cons_zero, List.set_cons_succ]
        refine gs_run (i := 2) rfl (by kernel_rfl) (by rfl) (fun K hK => ?_)
        go_simp
        refine (St1 _ _ (own_rd hown)).mono ?_
        rintro e v8 ⟨rfl, gg⟩
        have hS := hS.below gg
        have hy6 := (gg.block _ (lt_of_block hy6)).trans hy6
        have hown := hown.kept (below_grown0 gg) (.inr (by simp [Value.ownBlock]))
        (try have hz9 := (gg.block _ (lt_of_block hz9)).trans hz9)
        refine hK _ _ ⟨hS, ?_⟩
        clear hK K gg
        try simp only [Act.put, List.setIfInBounds_toArray, List.set_cons_zero, List.set_cons_succ]
        refine gs_run (i := 6) rfl (by kernel_rfl) (by rfl) (fun K hK => ?_)
        have hcn : v8.cell? ⟨nb, 0, none⟩ = some (.int .u8 0) := by rw [block_cell hz9]; rfl
        refine wp_append_own v8 (.tmp 35) (.tmp 36) 25 rfl w0.heap.size 5 i0 (.int .u8 0) 1 1 Try.underlying25 hi0 hz0 hz1 hz2 rfl (by decide) _ (8 * 2) (m.map bv) rfl hown ⟨nb, 0, none⟩ 1 1 [.int .u8 0] rfl rfl (by intro j u hj; match j, hj with | 0, hj => (simp at hj; subst hj; exact hcn) | j + 1, hj => simp at hj) (by intro u hu; simp at hu; subst hu; rfl) (by unfold maxLen; omega) (by omega) (by have := hS.size; have : w0.heap.size ≤ wr.drew.heap.size := sB; omega) ?_
        intro v2 v9 hown2 hgr _
        have hS := hS.grown hgr
        have hy6 := (hgr.block _ (lt_of_block hy6) (fun e => by first | (change some (w.heap.size + 1) = some g at e; injection e with e; omega) | (change some g = some (w.heap.size + 1) at e; injection e with e; omega))).trans hy6
        rw [show (m.map bv ++ [Value.int .u8 0]) = (m ++ [0]).map bv from by rw [List.map_append]; rfl] at hown2
        obtain ⟨g2, cp2, rfl, _, _⟩ := slice_of_own hown2 (by omega)
        refine hK _ _ ⟨hS, ?_⟩
        clear hK K hgr hcn hz9 hown
        try simp only [Act.put, List.setIfInBounds_toArray, List.set_cons_zero, List.set_cons_succ]
        refine gs_run (i := 7) rfl (by kernel_rfl) (by rfl) (fun K hK => ?_)
        go_simp
        refine (St2 _ _ (own_rd hown2)).mono ?_
        rintro e v10 ⟨rfl, gg⟩
        have hS := hS.below gg
        have hy6 := (gg.block _ (lt_of_block hy6)).trans hy6
        refine hK _ _ ⟨hS, ?_⟩
        clear hK K gg
        try simp only [Act.put, List.setIfInBounds_toArray, List.set_cons_zero, List.set_cons_succ]
        refine gs_run (i := 8) rfl (by kernel_rfl) (by rfl) (fun K hK => ?_)
        go_simp
        refine hK _ _ ⟨hS, ?_⟩
        clear hK K
        try simp only [Act.put, List.setIfInBounds_toArray, List.set_cons_zero, List.set_cons_succ]
        refine gs_run (i := 9) rfl (by kernel_rfl) (by rfl) (fun K hK => ?_)
        obtain ⟨c0, c1, cf⟩ := block_cells2 hy6
        have e0 := cf 0
        have e1 := cf 1
        go_simp
        refine hK _ _ ⟨hS.grown2 (grown_setB (i := 1) (u := .int .u64 (s2 : Int)) (grown_setB (i := 0) (u := .int .u64 (s1 : Int)) grown_reflB)), ?_⟩
        clear hK K c0 c1 cf e0 e1
        try simp only [Act.put, List.setIfInBounds_toArray, List.set_cons_zero, List.set_cons_succ]
        refine gs_done (by kernel_rfl) ?_
        have f6 := lt_of_block hy6
        obtain ⟨c0, c1, cf⟩ := block_cells2 hy6
        have e0 := cf 0
        have e1 := cf 1
        go_wp2_with fail
        have hT := hS.grown2 (grown_setB (i := 1) (u := .int .u64 (s2 : Int)) (grown_setB (i := 0) (u := .int .u64 (s1 : Int)) grown_reflB))
        refine bodyPost_ret (v := .agg #[.int .u64 (s1 : Int), .int .u64 (s2 : Int)]) (by simp [results, Try.results17, go_sem, c0, c1]) rfl ⟨?_, ?_⟩
        · rw [← EM.out, ← ES1.out, ← ES2.out]
        · exact ⟨hT.os.trans Bw.os, hT.tape.trans Bw.tape, hT.output.trans Bw.output, Nat.le_trans Bw.size hT.size, fun k hk => (hT.block k (Nat.lt_of_lt_of_le hk Bw.size) (by omega) (by omega)).trans (Bw.block k hk)⟩
end Go.Proofs.Ytfejjmodkjpmfaa
