/- The tag, as the document makes it. Written by wip/tools/gen3h.py. -/
import Derived.Test.YtfejjmodkjpmfaaS03W
import Derived.Test.YtfejjmodkjpmfaaS03Q
namespace Go.Proofs.Ytfejjmodkjpmfaa
open Go.RowKit
set_option linter.unusedVariables false
set_option linter.unusedSimpArgs false
theorem words_lt (l : List UInt8) (n : Nat) : ∀ m ∈ words (padN n l), m < 18446744073709551616 := by
  generalize padN n l = A
  suffices H : ∀ (M : Nat) (A : List UInt8), A.length ≤ M → ∀ m ∈ words A, m < 18446744073709551616 from H A.length A (Nat.le_refl _)
  intro M
  induction M using Nat.strongRecOn with
  | _ M ih =>
    intro A hA m hm
    unfold words at hm
    split at hm
    · rename_i b0 b1 b2 b3 b4 b5 b6 b7 t
      rcases List.mem_cons.1 hm with rfl | hm
      · exact le8_lt8 b0 b1 b2 b3 b4 b5 b6 b7
      · simp at hA
        exact ih t.length (by omega) t (Nat.le_refl _) m hm
    · cases hm
theorem fold_ok : ∀ (ws : List Nat) (s : St), s.Ok → (∀ m ∈ ws, m < 18446744073709551616) → (ws.foldl takeN s).Ok
  | [], s, h, _ => h
  | m :: ws, s, h, hw => by
    rw [List.foldl_cons]
    exact fold_ok ws _ (take_ok s h m (hw m (by simp))) (fun x hx => hw x (by simp [hx]))
theorem fold_take (ws : List Nat) (s : St) (k : Nat) (hk : k < ws.length) : (ws.take (k + 1)).foldl takeN s = takeN ((ws.take k).foldl takeN s) (ws.getD k 0) := by
  rw [List.take_add_one, List.foldl_append]
  simp [List.getD, hk]
set_option maxRecDepth 100000 in
set_option maxHeartbeats 2000000 in
theorem reftag_any (k0 k1 : Nat) (h0 : k0 < 18446744073709551616) (h1 : k1 < 18446744073709551616) (v : Value) (l : List UInt8) (hl : l.length ≤ 100000) (W : World) (h : Rd W v l) :
    Calls Try.prog 8 #[.agg #[.int .u64 (k0 : Int), .int .u64 (k1 : Int)], v] W fun e w' => e = .returned (.int .u64 (sipN k0 k1 l : Int)) ∧ Below W.heap.size W w' := by
  rw [sip_words]
  have Tw := fun w hd => words_any v l hl w hd
  have hws := words_lt l l.length
  generalize words (padN l.length l) = ws at Tw hws ⊢
  have hok := init_ok k0 k1 h0 h1
  have q1 : bits .xor .u64 8317987319222330741 (k0 : Int) = (xorN 8317987319222330741 k0 : Int) := xor_is (by decide) h0
  have q2 : bits .xor .u64 7237128888997146477 (k1 : Int) = (xorN 7237128888997146477 k1 : Int) := xor_is (by decide) h1
  have q3 : bits .xor .u64 7816392313619706465 (k0 : Int) = (xorN 7816392313619706465 k0 : Int) := xor_is (by decide) h0
  have q4 : bits .xor .u64 8387220255154660723 (k1 : Int) = (xorN 8387220255154660723 k1 : Int) := xor_is (by decide) h1
  unfold initN at hok ⊢
  generalize xorN 8317987319222330741 k0 = x1 at q1 hok ⊢
  generalize xorN 7237128888997146477 k1 = x2 at q2 hok ⊢
  generalize xorN 7816392313619706465 k0 = x3 at q3 hok ⊢
  generalize xorN 8387220255154660723 k1 = x4 at q4 hok ⊢
  have HW := Lib.hid hws
  have HOK := Lib.hid hok
  clear hws hok h0 h1
  go_enter Try.func8, Try.ntmps8
  go_wp2_with fail
  have z0 : ((W.alloc (.cells #[.int .u64 (k0 : Int), .int .u64 (k1 : Int)] 24)).alloc (.cells #[.int .u64 (x1 : Int), .int .u64 (x2 : Int), .int .u64 (x3 : Int), .int .u64 (x4 : Int)] 41)).heap[W.heap.size + 1]? = some (.cells #[.int .u64 (x1 : Int), .int .u64 (x2 : Int), .int .u64 (x3 : Int), .int .u64 (x4 : Int)] 41 (0, 0)) := (two_allocs W _ _).2.1
  have B0 : Below W.heap.size W ((W.alloc (.cells #[.int .u64 (k0 : Int), .int .u64 (k1 : Int)] 24)).alloc (.cells #[.int .u64 (x1 : Int), .int .u64 (x2 : Int), .int .u64 (x3 : Int), .int .u64 (x4 : Int)] 41)) := by go_grown
  generalize (W.alloc (.cells #[.int .u64 (k0 : Int), .int .u64 (k1 : Int)] 24)).alloc (.cells #[.int .u64 (x1 : Int), .int .u64 (x2 : Int), .int .u64 (x3 : Int), .int .u64 (x4 : Int)] 41) = w0 at z0 B0 ⊢
  refine (Tw _ (h.below B0 (Nat.le_refl _))).mono ?_
  rintro e w1 ⟨g, n, cap, rfl, hn, own, gb⟩
  have z1 := (gb.block _ (lt_of_block z0)).trans z0
  have B1 := chain B0 gb
  obtain ⟨b5, eb5⟩ : ∃ b, b = W.heap.size + 1 := ⟨_, rfl⟩
  have hg := own.lt g rfl
  have lt0 := lt_of_block z0
  rw [← eb5] at z1 lt0 ⊢
  have hb5 : W.heap.size ≤ b5 := by omega
  have hgb : g ≠ b5 := by omega
  have hrow : ∀ k, k < n → w1.cell? ⟨g, k, none⟩ = some (uv (ws.getD k 0)) := fun k hk => by
    rw [own.cellAt k (by omega)]
    simp [List.getD, show k < ws.length by omega]
  have hncap : n ≤ cap ∧ cap ≤ maxLen := by
    obtain ⟨_, _, e, h2, h3⟩ := slice_shape own
    injection e with _ e2 e3
    subst e3
    exact ⟨h2, h3⟩
  unfold maxLen at hncap
  obtain ⟨hnc, hcm⟩ := hncap
  have HR := Lib.hid hrow
  have HN := Lib.hid hn
  clear own gb z0 Tw q1 q2 q3 q4 hrow hn eb5 B0 lt0
  go_wp2_with fail
  go_loopw [7] (fun i wr => ∃ (k a b c d : Nat), i = .int .i64 (k : Int) ∧ k ≤ n ∧ Hid ((ws.take k).foldl takeN ⟨x1, x2, x3, x4⟩ = ⟨a, b, c, d⟩) ∧ w1.grownBy wr (some b5) ∧ Hid (wr.heap[b5]? = some (.cells #[.int .u64 (a : Int), .int .u64 (b : Int), .int .u64 (c : Int), .int .u64 (d : Int)] 41 (0, 0))))
    (fun i _ => n - (intOf i).toNat)
  case atStart => exact ⟨0, x1, x2, x3, x4, rfl, by omega, rfl, grown_reflB, Lib.hid z1⟩
  case round =>
    obtain ⟨k, a, b, c, d, rfl, hk, HF, hgr, HZ⟩ := hrel
    have z := HZ.out
    have sg := hgr.size
    have hF := HF.out
    by_cases hlt : k < n
    · have hkw : k < ws.length := by rw [← HN.out]; exact hlt
      have okS := fold_ok (ws.take k) ⟨x1, x2, x3, x4⟩ HOK.out (fun m hm => HW.out m (List.mem_of_mem_take hm))
      rw [hF] at okS
      obtain ⟨m, em⟩ : ∃ m, m = ws.getD k 0 := ⟨_, rfl⟩
      have hm : m < 18446744073709551616 := by rw [em]; exact HW.out _ (by simp [List.getD, hkw])
      have hnext : (ws.take (k + 1)).foldl takeN ⟨x1, x2, x3, x4⟩ = takeN ⟨a, b, c, d⟩ m := by rw [fold_take ws _ k hkw, hF, ← em]
      have hcellOf : ∀ w' : World, w1.grownBy w' (some b5) → w'.cell? ⟨g, k, none⟩ = some (.int .u64 (m : Int)) := fun w' hgr => by
        have e := hgr.block g hg.2 (by simp; first | exact hgb | exact fun e => hgb e.symm)
        have cc := HR.out k hlt
        rw [← em] at cc
        unfold World.cell? at cc ⊢
        simp only [] at cc ⊢
        rw [e]; exact cc
      have hcell := hcellOf wr hgr
      have HC := Lib.hid hcellOf
      clear hcellOf
      have p1 := xor_is okS.d hm
      have ok1 := ok_setD _ okS (xorN d m) (xor_lt okS.d hm)
      simp only [] at p1 ok1
      unfold takeN at hnext
      simp only [] at hnext
      generalize xorN d m = d1 at p1 ok1 hnext
      have T1 := round_any _ ok1
      have ok2 := round_ok _ ok1
      have hr2 : roundsN 2 ⟨a, b, c, d1⟩ = roundN (roundN ⟨a, b, c, d1⟩) := rfl
      rw [hr2] at hnext
      generalize roundN ⟨a, b, c, d1⟩ = s1 at T1 ok2 hnext
      have T2 := round_any _ ok2
      have ok3 := round_ok _ ok2
      generalize roundN s1 = s2 at T2 ok3 hnext
      obtain ⟨a1, b1, c1, f1⟩ := s1
      obtain ⟨a2, b2, c2, f2⟩ := s2
      have p2 := xor_is ok3.a hm
      simp only [] at p2 hnext
      generalize xorN a2 m = a3 at p2 hnext
      simp only [stV] at T1 T2
      have HNX := Lib.hid hnext
      have EM := Lib.hid em
      clear hnext em hm okS ok1 ok2 ok3 hF HF hr2
      go_wp2_with fail
      have z : wr.drew.heap[b5]? = some (.cells #[.int .u64 (a : Int), .int .u64 (b : Int), .int .u64 (c : Int), .int .u64 (d : Int)] 41 (0, 0)) := z
      have hcell : wr.drew.cell? ⟨g, k, none⟩ = some (.int .u64 (m : Int)) := hcell
      have hgS : g < wr.drew.heap.size := by show g < wr.heap.size; omega
      refine t_start 8 (by kernel_rfl) ?_
      refine t_take (i := 0) (d := (some 29)) (v := ?_) rfl rfl (by kernel_rfl) (fun _ _ _ h => h) (by rfl) (fun w' hb' => ?_) ?_
      rotate_left
      · (try go_simp); (try with_reducible rfl)
      try simp only [Act.put, List.setIfInBounds_toArray, List.set_cons_zero, List.set_cons_succ]
      refine t_take (i := 1) (d := (some 30)) (v := ?_) rfl rfl (by kernel_rfl) (fun _ _ _ h => h) (by rfl) (fun w' hb' => ?_) ?_
      rotate_left
      · have zz : w'.heap[b5]? = some (.cells #[.int .u64 (a : Int), .int .u64 (b : Int), .int .u64 (c : Int), .int .u64 (d : Int)] 41 (0, 0)) := (hb'.block _ (lt_of_block z)).trans z; obtain ⟨y0, y1, y2, y3, yf⟩ := block_cells4 zz; (try go_simp); (try with_reducible rfl)
      try simp only [Act.put, List.setIfInBounds_toArray, List.set_cons_zero, List.set_cons_succ]
      refine t_take (i := 2) (d := (some 31)) (v := ?_) rfl rfl (by kernel_rfl) (fun _ _ _ h => h) (by rfl) (fun w' hb' => ?_) ?_
      rotate_left
      · (try go_simp); (try with_reducible rfl)
      try simp only [Act.put, List.setIfInBounds_toArray, List.set_cons_zero, List.set_cons_succ]
      refine t_take (i := 3) (d := (some 32)) (v := ?_) rfl rfl (by kernel_rfl) (fun _ _ _ h => h) (by rfl) (fun w' hb' => ?_) ?_
      rotate_left
      · (try go_simp); (try with_reducible rfl)
      try simp only [Act.put, List.setIfInBounds_toArray, List.set_cons_zero, List.set_cons_succ]
      refine t_take (i := 4) (d := (some 33)) (v := ?_) rfl rfl (by kernel_rfl) (fun _ _ _ h => h) (by rfl) (fun w' hb' => ?_) ?_
      rotate_left
      · (try go_simp); (try with_reducible rfl)
      try simp only [Act.put, List.setIfInBounds_toArray, List.set_cons_zero, List.set_cons_succ]
      refine t_take (i := 5) (d := (some 34)) (v := ?_) rfl rfl (by kernel_rfl) (fun _ _ _ h => h) (by rfl) (fun w' hb' => ?_) ?_
      rotate_left
      · have zz := (hb'.cell (p := ⟨g, k, none⟩) (by first | exact hgS | omega)).trans hcell; (try go_simp); (try with_reducible rfl)
      try simp only [Act.put, List.setIfInBounds_toArray, List.set_cons_zero, List.set_cons_succ]
      refine t_take (i := 6) (d := (some 35)) (v := ?_) rfl rfl (by kernel_rfl) (fun _ _ _ h => h) (by rfl) (fun w' hb' => ?_) ?_
      rotate_left
      · (try go_simp); (try with_reducible rfl)
      try simp only [Act.put, List.setIfInBounds_toArray, List.set_cons_zero, List.set_cons_succ]
      refine t_take (i := 7) (d := (some 36)) (v := ?_) rfl rfl (by kernel_rfl) (fun _ _ _ h => h) (by rfl) (fun w' hb' => ?_) ?_
      rotate_left
      · (try go_simp); (try with_reducible rfl)
      try simp only [Act.put, List.setIfInBounds_toArray, List.set_cons_zero, List.set_cons_succ]
      refine t_last (i := 8) rfl (by kernel_rfl) (by kernel_rfl) (by kernel_rfl) (by rfl) (fun K hK => ?_)
      obtain ⟨i0, i1, i2, i3, cf⟩ := block_cells4 z; have e0 := cf 0; have e1 := cf 1; have e2 := cf 2; have e3 := cf 3; have l5 := lt_of_block z; go_simp; refine hK _ _ ?_; clear hK K i0 i1 i2 i3 cf e0 e1 e2 e3 l5
      obtain ⟨WS, hWS⟩ : ∃ WS, WS = (wr.setCell ⟨b5, 3, none⟩ (.int .u64 (d1 : Int))).drew := ⟨_, rfl⟩
      rw [← hWS]
      have z3 : WS.heap[b5]? = some (.cells #[.int .u64 (a : Int), .int .u64 (b : Int), .int .u64 (c : Int), .int .u64 (d1 : Int)] 41 (0, 0)) := by rw [hWS]; have y := set_at (i := 3) (u := .int .u64 (d1 : Int)) z; simp at y; exact y
      have hg3 : w1.grownBy WS (some b5) := by rw [hWS]; exact grown_drewB (grown_setB hgr)
      clear hWS z hcell hgS
      obtain ⟨c0, c1, c2, c3, cf⟩ := block_cells4 z3
      have e0 := cf 0
      have e1 := cf 1
      have e2 := cf 2
      have e3 := cf 3
      have l5 := lt_of_block z3
      go_wp2_with fail
      refine (T1 _).mono ?_
      rintro e w5 ⟨rfl, gg⟩
      clear c0 c1 c2 c3 cf e0 e1 e2 e3 l5
      have z5 : w5.heap[b5]? = some (.cells #[.int .u64 (a : Int), .int .u64 (b : Int), .int .u64 (c : Int), .int .u64 (d1 : Int)] 41 (0, 0)) := (gg.block _ (lt_of_block z3)).trans z3
      have hg5 := grown_belowB hg3 gg
      clear gg z3 hg3
      go_wp2_with fail
      refine (T2 _).mono ?_
      rintro e w6 ⟨rfl, gg⟩
      have z6 : w6.heap[b5]? = some (.cells #[.int .u64 (a : Int), .int .u64 (b : Int), .int .u64 (c : Int), .int .u64 (d1 : Int)] 41 (0, 0)) := (gg.block _ (lt_of_block z5)).trans z5
      have hg6 := grown_belowB hg5 gg
      clear gg z5 hg5
      obtain ⟨c0, c1, c2, c3, cf⟩ := block_cells4 z6
      have e0 := cf 0
      have e1 := cf 1
      have e2 := cf 2
      have e3 := cf 3
      have l5 := lt_of_block z6
      go_wp2_with fail
      clear c0 c1 c2 c3 cf e0 e1 e2 e3 l5
      obtain ⟨W7, hW7⟩ : ∃ W, W = ((((World.setCell w6 ⟨b5, 0, none⟩ (.int .u64 (a2 : Int))).setCell ⟨b5, 1, none⟩ (.int .u64 (b2 : Int))).setCell ⟨b5, 2, none⟩ (.int .u64 (c2 : Int))).setCell ⟨b5, 3, none⟩ (.int .u64 (f2 : Int))) := ⟨_, rfl⟩
      rw [← hW7]
      have z : W7.heap[b5]? = some (.cells #[.int .u64 (a2 : Int), .int .u64 (b2 : Int), .int .u64 (c2 : Int), .int .u64 (f2 : Int)] 41 (0, 0)) := by rw [hW7]; exact set4_new z6
      have hg7 : w1.grownBy W7 (some b5) := by rw [hW7]; exact grown_setB (grown_setB (grown_setB (grown_setB hg6)))
      have hcell := HC.out W7 hg7
      have sg7 := hg7.size
      clear hW7 z6 hg6
      have z : W7.drew.heap[b5]? = some (.cells #[.int .u64 (a2 : Int), .int .u64 (b2 : Int), .int .u64 (c2 : Int), .int .u64 (f2 : Int)] 41 (0, 0)) := z
      have hcell : W7.drew.cell? ⟨g, k, none⟩ = some (.int .u64 (m : Int)) := hcell
      have hgS : g < W7.drew.heap.size := by show g < W7.heap.size; omega
      refine t_start 8 (by kernel_rfl) ?_
      refine t_take (i := 0) (d := (some 40)) (v := ?_) rfl rfl (by kernel_rfl) (fun _ _ _ h => h) (by rfl) (fun w' hb' => ?_) ?_
      rotate_left
      · (try go_simp); (try with_reducible rfl)
      try simp only [Act.put, List.setIfInBounds_toArray, List.set_cons_zero, List.set_cons_succ]
      refine t_take (i := 1) (d := (some 41)) (v := ?_) rfl rfl (by kernel_rfl) (fun _ _ _ h => h) (by rfl) (fun w' hb' => ?_) ?_
      rotate_left
      · have zz : w'.heap[b5]? = some (.cells #[.int .u64 (a2 : Int), .int .u64 (b2 : Int), .int .u64 (c2 : Int), .int .u64 (f2 : Int)] 41 (0, 0)) := (hb'.block _ (lt_of_block z)).trans z; obtain ⟨y0, y1, y2, y3, yf⟩ := block_cells4 zz; (try go_simp); (try with_reducible rfl)
      try simp only [Act.put, List.setIfInBounds_toArray, List.set_cons_zero, List.set_cons_succ]
      refine t_take (i := 2) (d := (some 42)) (v := ?_) rfl rfl (by kernel_rfl) (fun _ _ _ h => h) (by rfl) (fun w' hb' => ?_) ?_
      rotate_left
      · (try go_simp); (try with_reducible rfl)
      try simp only [Act.put, List.setIfInBounds_toArray, List.set_cons_zero, List.set_cons_succ]
      refine t_take (i := 3) (d := (some 43)) (v := ?_) rfl rfl (by kernel_rfl) (fun _ _ _ h => h) (by rfl) (fun w' hb' => ?_) ?_
      rotate_left
      · (try go_simp); (try with_reducible rfl)
      try simp only [Act.put, List.setIfInBounds_toArray, List.set_cons_zero, List.set_cons_succ]
      refine t_take (i := 4) (d := (some 44)) (v := ?_) rfl rfl (by kernel_rfl) (fun _ _ _ h => h) (by rfl) (fun w' hb' => ?_) ?_
      rotate_left
      · (try go_simp); (try with_reducible rfl)
      try simp only [Act.put, List.setIfInBounds_toArray, List.set_cons_zero, List.set_cons_succ]
      refine t_take (i := 5) (d := (some 45)) (v := ?_) rfl rfl (by kernel_rfl) (fun _ _ _ h => h) (by rfl) (fun w' hb' => ?_) ?_
      rotate_left
      · have zz := (hb'.cell (p := ⟨g, k, none⟩) (by first | exact hgS | omega)).trans hcell; (try go_simp); (try with_reducible rfl)
      try simp only [Act.put, List.setIfInBounds_toArray, List.set_cons_zero, List.set_cons_succ]
      refine t_take (i := 6) (d := (some 46)) (v := ?_) rfl rfl (by kernel_rfl) (fun _ _ _ h => h) (by rfl) (fun w' hb' => ?_) ?_
      rotate_left
      · (try go_simp); (try with_reducible rfl)
      try simp only [Act.put, List.setIfInBounds_toArray, List.set_cons_zero, List.set_cons_succ]
      refine t_take (i := 7) (d := (some 47)) (v := ?_) rfl rfl (by kernel_rfl) (fun _ _ _ h => h) (by rfl) (fun w' hb' => ?_) ?_
      rotate_left
      · (try go_simp); (try with_reducible rfl)
      try simp only [Act.put, List.setIfInBounds_toArray, List.set_cons_zero, List.set_cons_succ]
      refine t_last (i := 8) rfl (by kernel_rfl) (by kernel_rfl) (by kernel_rfl) (by rfl) (fun K hK => ?_)
      obtain ⟨i0, i1, i2, i3, cf⟩ := block_cells4 z; have e0 := cf 0; have e1 := cf 1; have e2 := cf 2; have e3 := cf 3; have l5 := lt_of_block z; go_simp; refine hK _ _ ?_; clear hK K i0 i1 i2 i3 cf e0 e1 e2 e3 l5
      go_wp2_with fail
      refine ⟨⟨k + 1, a3, b2, c2, f2, by push_cast; rfl, by omega, HNX, ?_, Lib.hid ?_⟩, by simp [intOf]; omega⟩
      · exact grown_drewB (grown_setB hg7)
      · have y := set_at (i := 0) (u := .int .u64 (a3 : Int)) z
        simp at y
        exact y
    · obtain rfl : k = n := by omega
      have okS := fold_ok ws ⟨x1, x2, x3, x4⟩ HOK.out HW.out
      rw [List.take_of_length_le (by rw [← HN.out]; exact Nat.le_refl _)] at hF
      rw [hF] at okS
      have p1 := xor_is okS.c (show (255 : Nat) < 18446744073709551616 by decide)
      have ok1 := ok_setC _ okS (xorN c 255) (xor_lt okS.c (by decide))
      have hend : endN (ws.foldl takeN ⟨x1, x2, x3, x4⟩) = (let t := roundsN 4 ⟨a, b, xorN c 255, d⟩; xorN (xorN (xorN t.a t.b) t.c) t.d) := by rw [hF]; rfl
      simp only [] at p1 ok1 hend
      generalize xorN c 255 = c' at p1 ok1 hend
      have T1 := round_any _ ok1
      have ok2 := round_ok _ ok1
      rw [show roundsN 4 ⟨a, b, c', d⟩ = roundN (roundN (roundN (roundN ⟨a, b, c', d⟩))) from rfl] at hend
      generalize roundN ⟨a, b, c', d⟩ = s1 at T1 ok2 hend
      have T2 := round_any _ ok2
      have ok3 := round_ok _ ok2
      generalize roundN s1 = s2 at T2 ok3 hend
      have T3 := round_any _ ok3
      have ok4 := round_ok _ ok3
      generalize roundN s2 = s3 at T3 ok4 hend
      have T4 := round_any _ ok4
      have ok5 := round_ok _ ok4
      generalize roundN s3 = s4 at T4 ok5 hend
      obtain ⟨a1, b1, c1, f1⟩ := s1
      obtain ⟨a2, b2, c2, f2⟩ := s2
      obtain ⟨a3, b3, c3, f3⟩ := s3
      obtain ⟨a4, b4, c4, f4⟩ := s4
      have p2 := xor_is ok5.a ok5.b
      have p3 := xor_is (xor_lt ok5.a ok5.b) ok5.c
      have p4 := xor_is (xor_lt (xor_lt ok5.a ok5.b) ok5.c) ok5.d
      simp only [] at p2 p3 p4 hend
      generalize xorN a4 b4 = y1 at p2 p3 p4 hend
      generalize xorN y1 c4 = y2 at p3 p4 hend
      generalize xorN y2 f4 = y3 at p4 hend
      simp only [stV, Int.cast_ofNat_Int] at T1 T2 T3 T4 p1
      have HE := Lib.hid hend
      clear hend okS ok1 ok2 ok3 ok4 ok5 hF HF
      obtain ⟨c0, c1, c2, c3, cf⟩ := block_cells4 z
      have e0 := cf 0
      have e1 := cf 1
      have e2 := cf 2
      have e3 := cf 3
      have l5 := lt_of_block z
      go_wp2_with fail
      refine (T1 _).mono ?_
      rintro e v1 ⟨rfl, gg⟩
      clear c0 c1 c2 c3 cf e0 e1 e2 e3 l5
      have y := set_at (i := 2) (u := .int .u64 (c' : Int)) z
      simp at y
      have zv1 : v1.heap[b5]? = some (.cells #[.int .u64 (a : Int), .int .u64 (b : Int), .int .u64 (c' : Int), .int .u64 (d : Int)] 41 (0, 0)) := (gg.block _ (lt_of_block y)).trans y
      have hv1 : w1.grownBy v1 (some b5) := grown_belowB (grown_setB hgr) gg
      clear gg y z
      go_wp2_with fail
      refine (T2 _).mono ?_
      rintro e v2 ⟨rfl, gg⟩
      have zv2 : v2.heap[b5]? = some (.cells #[.int .u64 (a : Int), .int .u64 (b : Int), .int .u64 (c' : Int), .int .u64 (d : Int)] 41 (0, 0)) := (gg.block _ (lt_of_block zv1)).trans zv1
      have hv2 := grown_belowB hv1 gg
      clear gg
      go_wp2_with fail
      refine (T3 _).mono ?_
      rintro e v3 ⟨rfl, gg⟩
      have zv3 : v3.heap[b5]? = some (.cells #[.int .u64 (a : Int), .int .u64 (b : Int), .int .u64 (c' : Int), .int .u64 (d : Int)] 41 (0, 0)) := (gg.block _ (lt_of_block zv2)).trans zv2
      have hv3 := grown_belowB hv2 gg
      clear gg
      go_wp2_with fail
      refine (T4 _).mono ?_
      rintro e v4 ⟨rfl, gg⟩
      have zv4 : v4.heap[b5]? = some (.cells #[.int .u64 (a : Int), .int .u64 (b : Int), .int .u64 (c' : Int), .int .u64 (d : Int)] 41 (0, 0)) := (gg.block _ (lt_of_block zv3)).trans zv3
      have hv4 := grown_belowB hv3 gg
      clear gg
      obtain ⟨c0, c1, c2, c3, cf⟩ := block_cells4 zv4
      have e0 := cf 0
      have e1 := cf 1
      have e2 := cf 2
      have e3 := cf 3
      have l5 := lt_of_block zv4
      go_wp2_with fail
      go_ret
      refine ⟨by rw [HE.out]; rfl, below_grownB B1 hb5 ?_⟩
      exact grown_setB (grown_setB (grown_setB (grown_setB hv4)))
end Go.Proofs.Ytfejjmodkjpmfaa
