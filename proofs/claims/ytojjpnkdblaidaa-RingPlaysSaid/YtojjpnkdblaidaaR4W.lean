/- The law RingPlays. Written by wip/tools/gen4w.py. -/
import Derived.Test.YtojjpnkdblaidaaR4V
namespace Go.Proofs.Ytojjpnkdblaidaa
open Go Go.RowKit Go.Maps
set_option linter.unusedVariables false
set_option linter.unusedSimpArgs false
set_option maxRecDepth 100000 in
set_option maxHeartbeats 2000000 in
theorem law_plays (p : Int) (v1 : Value) (xs : List Int) (v2 : Value) (D : List (Int × St)) (w : World) (hp : (Lit.int .i64 p).wf = true) (h1 : RdV w v1 (xs.map iv)) (h2 : RdD w v2 D) :
    Calls Try.prog 3 #[.int .i64 p, v1, v2] w fun e w' => e = .returned (.bool true) ∧ Below w.heap.size w w' := by
  have AW := Lib.hid awake_any
  have R2 := ring2_any p v1 xs w h1
  have hl80 : (xs.take 80).length ≤ 80 := by simp; omega
  obtain ⟨X, hX⟩ : ∃ X, X = xs.take 80 := ⟨_, rfl⟩
  rw [← hX] at R2 hl80
  clear hX
  obtain ⟨a2, c2, hv2, hc2, _⟩ := rdd_open h2
  have FW := Lib.hid (fun w' => few_any v2 D.length a2 c2 hv2 hc2 w')
  have H2 := Lib.hid h2
  obtain ⟨ao1, cap1, hv1, _⟩ := rdv_open h1
  subst hv1 hv2
  clear h1 h2 hp
  obtain ⟨W, hW⟩ : ∃ W, W = w := ⟨_, rfl⟩
  have Be : Below w.heap.size w W := by rw [hW]; exact Below.refl _ _
  go_enter Try.func3, Try.ntmps3
  go_wp2_with fail
  refine R2.mono ?_
  rintro e w1 ⟨g1, v, rv, (⟨hmay, rfl⟩ | ⟨hmay, B, M, n, base, hn, hb1, hb2, rfl, rg⟩)⟩
  · obtain ⟨ao3, cap3, rfl, hc3, hm3, _⟩ := rdv_open rv
    have B3 : Below w.heap.size w (w1.alloc (.cells #[.int .i64 p, .slice ao3 X.length cap3, .slice none 0 0] 27)) := g1.alloc g1.size _
    have MY := may_any p (.slice ao3 X.length cap3) X (by omega) _ (rv.below B3 (Nat.le_refl _))
    have NW := new_any p (.slice ao3 X.length cap3) X (by omega) _ (rv.below B3 (Nat.le_refl _))
    rw [hmay] at MY
    have HMAY := Lib.hid hmay
    clear rv hmay R2 g1 hW
    go_wp2_with fail
    refine MY.mono ?_
    rintro e w2 ⟨rfl, rfl⟩
    go_wp2_with fail
    refine NW.mono ?_
    rintro e w3 (⟨_, rfl, g3⟩ | ⟨h, _⟩)
    · go_wp2_with (go_at_call 9; refine (AW.out _).mono ?_; rintro e w4 ⟨rfl, g4⟩)
      go_ret
      exact ⟨rfl, chain (chain B3 g3) g4⟩
    · rw [HMAY.out] at h; cases h
  · obtain ⟨ao3, cap3, rfl, hc3, hm3, _⟩ := rdv_open rv
    subst hn
    have B3 : Below W.heap.size W (w1.alloc (.cells #[.int .i64 (n : Int), .slice ao3 X.length cap3, .slice none 0 0] 27)) := by rw [hW]; exact g1.alloc g1.size _
    have rg1 := rg.below ((Below.refl _ _).alloc (Nat.le_refl _) (.cells #[.int .i64 (n : Int), .slice ao3 X.length cap3, .slice none 0 0] 27))
    have q8 := heap_alloc_new w1 (.cells #[.int .i64 (n : Int), .slice ao3 X.length cap3, .slice none 0 0] 27)
    have RVX := Lib.hid (show ∀ w', Below W.heap.size W w' → RdV w' (.slice ao3 X.length cap3) (X.map iv) from fun w' g => rv.below (B := w.heap.size) (by rw [hW] at g; exact g) (Nat.le_refl _))
    have MY := may_any (n : Int) (.slice ao3 X.length cap3) X (by omega) _ (RVX.out _ B3)
    rw [hmay] at MY
    have HMAY := Lib.hid hmay
    have hWb : W.heap.size ≤ base := by rw [hW]; exact hb1
    have hbase : base ≤ (w1.alloc (.cells #[.int .i64 (n : Int), .slice ao3 X.length cap3, .slice none 0 0] 27)).heap.size := by simp; omega
    have hcut := rdd_cut H2.out
    have hl120 : (D.take 120).length ≤ 120 := by simp; omega
    have hmin : min D.length 120 = (D.take 120).length := by simp [Nat.min_comm]
    rw [hmin] at FW hcut
    obtain ⟨D1, hD1⟩ : ∃ D1, D1 = D.take 120 := ⟨_, rfl⟩
    rw [← hD1] at FW hcut hl120
    obtain ⟨ao4, cap4, hv4, hc4, hwf4, HA⟩ := rdd_open hcut
    cases hv4
    have HW4 := Lib.hid hwf4
    have hWm1 : W.heap.size ≤ w1.heap.size := by rw [hW]; exact g1.size
    clear rv hmay R2 g1 rg hcut hmin hD1 H2 hwf4 hW
    go_wp2_with fail
    refine MY.mono ?_
    rintro e w2 ⟨rfl, rfl⟩
    go_wp2_with fail
    refine (FW.out _).mono ?_
    rintro e w2 ⟨rfl, rfl⟩
    obtain ⟨m8, hm8⟩ : ∃ m8, m8 = w1.heap.size := ⟨_, rfl⟩
    obtain ⟨W1, hW1⟩ : ∃ W1, W1 = w1.alloc (.cells #[.int .i64 (n : Int), .slice ao3 X.length cap3, .slice none 0 0] 27) := ⟨_, rfl⟩
    rw [← hW1] at B3 rg1 hbase q8 ⊢
    rw [← hm8] at q8 hWm1 ⊢
    have hWm := hWm1
    clear hW1 hm8 MY
    go_wp2_with fail
    go_loopw [12] (fun i wr => ∃ j : Nat, j ≤ D1.length ∧ i = .int .i64 (j : Int) ∧ Below W.heap.size W wr ∧ base ≤ wr.heap.size ∧ ∃ sv lv, RG wr base B M n (badOf X) sv (recN n X (D1.take j)) ∧ wr.heap[m8]? = some (.cells #[.int .i64 (n : Int), .slice ao3 X.length cap3, lv] 27 (0, 0)) ∧ wr.ownsRow 0 39 5 lv (recN n X (D1.take j)).length ((recN n X (D1.take j)).flatMap St.cs) ∧ ∀ k, lv.ownBlock = some k → sv.ownBlock ≠ some k) (fun i _ => 200 - (intOf i).toNat)
    case atStart => exact ⟨0, Nat.zero_le _, rfl, B3, hbase, _, _, rg1, q8, World.ownsRow_nil _ _ _ _, fun k hk => by cases hk⟩
    case round =>
      obtain ⟨j, hj, rfl, bel, hbs, sv, lv, rg, q8, ow, hne⟩ := hrel
      obtain ⟨L, hL⟩ : ∃ L, L = recN n X (D1.take j) := ⟨_, rfl⟩
      have hLl : L.length ≤ 120 := by rw [hL]; have := recN_len n X (D1.take j); simp at this; omega
      rw [← hL] at rg ow
      obtain ⟨aL, cL, rfl⟩ := own_slice' ow
      have HNE := Lib.hid hne
      have HOW := Lib.hid ow
      by_cases hjx : j < D1.length
      · obtain ⟨b, off, rfl, hb, hcells⟩ := HA.out (by omega)
        have hcw : ∀ w', w'.heap[b]? = wr.heap[b]? → w'.cell? ⟨b, off + j * 6, none⟩ = some (.int .i64 D1[j].1) ∧ At5 w' b (off + j * 6 + 1) D1[j].2 := by
          intro w' hw'
          have e : w'.heap[b]? = w.heap[b]? := hw'.trans ((bel.block b (Nat.lt_of_lt_of_le hb Be.size)).trans (Be.block b hb))
          exact ⟨(World.cell?_of_block e).trans (hcells j hjx).1, (hcells j hjx).2.of e⟩
        have ht : D1.take (j + 1) = D1.take j ++ [D1[j]] := by rw [List.take_succ_eq_append_getElem hjx]
        have hwf := HW4.out D1[j] (List.getElem_mem hjx)
        obtain ⟨⟨sp, t⟩, ex⟩ : ∃ d, d = D1[j] := ⟨_, rfl⟩
        rw [← ex] at hcw ht hwf
        simp only at hcw hwf
        have AC := Lib.hid hcw
        have HWT := Lib.hid hwf
        have hrec : recN n X (D1.take (j + 1)) = sayL n X L sp t := by rw [ht, recN_snoc, hL]
        have HREC := Lib.hid hrec
        have lb0 : b < wr.heap.size := Nat.lt_of_lt_of_le hb (Nat.le_trans Be.size bel.size)
        have lb : b < wr.drew.heap.size := lb0
        have hbW : b < W.heap.size := Nat.lt_of_lt_of_le hb Be.size
        have hbb : b < base := by omega
        have hbm : b ≠ m8 := by omega
        have rgD := rg.below (Below.refl wr.heap.size wr).drew
        have hL2l := Lib.hid (show (sayL n X L sp t).length ≤ 121 from Nat.le_trans sayL_len (by omega))
        have HMY := Lib.hid (fun w' (g : Below wr.drew.heap.size wr.drew w') => refSay_any n (.slice ao3 X.length cap3) (.slice aL L.length cL) X L sp t w' (by omega) (by omega) (RVX.out _ (chain bel.drew g)) rgD.wf (own_below (w := wr.drew) HOW.out g))
        have hT0 : wr.drew.heap[b]? = wr.heap[b]? ∧ wr.drew.heap[m8]? = some (.cells #[.int .i64 (n : Int), .slice ao3 X.length cap3, .slice aL L.length cL] 27 (0, 0)) := ⟨rfl, q8⟩
        unfold St.v at HMY
        clear ht hwf ex hcells hcw hrec hL hne ow rg
        go_wp2_with fail
        refine gs_start (S := fun w' => w'.heap[b]? = wr.heap[b]? ∧ w'.heap[m8]? = some (.cells #[.int .i64 (n : Int), .slice ao3 X.length cap3, .slice aL L.length cL] 27 (0, 0))) (by kernel_rfl) ?_
        refine gs_take (i := 0) (d := (some 60)) (v := ?_) rfl rfl (by kernel_rfl) (fun _ _ _ h => h) (by rfl) (by first | exact hT3 | exact hT2 | exact hT1 | exact hT0) (fun w' hb' => ?_) ?_
        rotate_left
        · have hc := cells3 hb'.2; (try go_simp); (try with_reducible rfl)
        try simp only [Act.put, List.setIfInBounds_toArray, List.set_cons_zero, List.set_cons_succ]
        refine gs_take (i := 1) (d := (some 61)) (v := ?_) rfl rfl (by kernel_rfl) (fun _ _ _ h => h) (by rfl) (by first | exact hT3 | exact hT2 | exact hT1 | exact hT0) (fun w' hb' => ?_) ?_
        rotate_left
        · (try go_simp); (try with_reducible rfl)
        try simp only [Act.put, List.setIfInBounds_toArray, List.set_cons_zero, List.set_cons_succ]
        refine gs_take (i := 2) (d := (some 62)) (v := ?_) rfl rfl (by kernel_rfl) (fun _ _ _ h => h) (by rfl) (by first | exact hT3 | exact hT2 | exact hT1 | exact hT0) (fun w' hb' => ?_) ?_
        rotate_left
        · (try go_simp); (try with_reducible rfl)
        try simp only [Act.put, List.setIfInBounds_toArray, List.set_cons_zero, List.set_cons_succ]
        refine gs_take (i := 3) (d := (some 63)) (v := ?_) rfl rfl (by kernel_rfl) (fun _ _ _ h => h) (by rfl) (by first | exact hT3 | exact hT2 | exact hT1 | exact hT0) (fun w' hb' => ?_) ?_
        rotate_left
        · (try go_simp); (try with_reducible rfl)
        try simp only [Act.put, List.setIfInBounds_toArray, List.set_cons_zero, List.set_cons_succ]
        refine gs_take (i := 4) (d := (some 64)) (v := ?_) rfl rfl (by kernel_rfl) (fun _ _ _ h => h) (by rfl) (by first | exact hT3 | exact hT2 | exact hT1 | exact hT0) (fun w' hb' => ?_) ?_
        rotate_left
        · (try go_simp); (try with_reducible rfl)
        try simp only [Act.put, List.setIfInBounds_toArray, List.set_cons_zero, List.set_cons_succ]
        refine gs_take (i := 5) (d := (some 65)) (v := ?_) rfl rfl (by kernel_rfl) (fun _ _ _ h => h) (by rfl) (by first | exact hT3 | exact hT2 | exact hT1 | exact hT0) (fun w' hb' => ?_) ?_
        rotate_left
        · have hc := (AC.out _ hb'.1).1; (try go_simp); (try with_reducible rfl)
        try simp only [Act.put, List.setIfInBounds_toArray, List.set_cons_zero, List.set_cons_succ]
        refine gs_take (i := 6) (d := (some 66)) (v := ?_) rfl rfl (by kernel_rfl) (fun _ _ _ h => h) (by rfl) (by first | exact hT3 | exact hT2 | exact hT1 | exact hT0) (fun w' hb' => ?_) ?_
        rotate_left
        · (try go_simp); (try with_reducible rfl)
        try simp only [Act.put, List.setIfInBounds_toArray, List.set_cons_zero, List.set_cons_succ]
        refine gs_take (i := 7) (d := (some 67)) (v := ?_) rfl rfl (by kernel_rfl) (fun _ _ _ h => h) (by rfl) (by first | exact hT3 | exact hT2 | exact hT1 | exact hT0) (fun w' hb' => ?_) ?_
        rotate_left
        · (try go_simp); (try with_reducible rfl)
        try simp only [Act.put, List.setIfInBounds_toArray, List.set_cons_zero, List.set_cons_succ]
        refine gs_take (i := 8) (d := (some 68)) (v := ?_) rfl rfl (by kernel_rfl) (fun _ _ _ h => h) (by rfl) (by first | exact hT3 | exact hT2 | exact hT1 | exact hT0) (fun w' hb' => ?_) ?_
        rotate_left
        · (try go_simp); (try with_reducible rfl)
        try simp only [Act.put, List.setIfInBounds_toArray, List.set_cons_zero, List.set_cons_succ]
        refine gs_take (i := 9) (d := (some 69)) (v := ?_) rfl rfl (by kernel_rfl) (fun _ _ _ h => h) (by rfl) (by first | exact hT3 | exact hT2 | exact hT1 | exact hT0) (fun w' hb' => ?_) ?_
        rotate_left
        · (try go_simp); (try with_reducible rfl)
        try simp only [Act.put, List.setIfInBounds_toArray, List.set_cons_zero, List.set_cons_succ]
        refine gs_take (i := 10) (d := (some 70)) (v := ?_) rfl rfl (by kernel_rfl) (fun _ _ _ h => h) (by rfl) (by first | exact hT3 | exact hT2 | exact hT1 | exact hT0) (fun w' hb' => ?_) ?_
        rotate_left
        · have hc := (AC.out _ hb'.1).2; obtain ⟨k1, k2, k3, k4, k5⟩ := hc; (try go_simp); (try with_reducible rfl)
        try simp only [Act.put, List.setIfInBounds_toArray, List.set_cons_zero, List.set_cons_succ]
        refine gs_run2 (i := 11) (k := 15) rfl rfl (by kernel_rfl) (by rfl) (by rfl) (fun K hK => ?_) (fun K hK => ?_)
        · skip
          go_simp
          refine (HMY.out _ (Below.refl _ _)).mono ?_
          rintro e w4 ⟨g4, lv4, rfl, ow4, hlv4⟩
          obtain ⟨a4, m4, c4, rfl⟩ := own_slice ow4
          have bel5 : Below wr.drew.heap.size wr.drew w4 := g4
          have LV4 := Lib.hid hlv4
          have hT1 : w4.heap[b]? = wr.heap[b]? ∧ w4.heap[m8]? = some (.cells #[.int .i64 (n : Int), .slice ao3 X.length cap3, .slice aL L.length cL] 27 (0, 0)) := ⟨(bel5.block b lb).trans hT0.1, (bel5.block _ (lt_of_block q8)).trans hT0.2⟩
          have OW4 := Lib.hid ow4
          clear ow4 hlv4
          refine hK _ _ ⟨hT1, ?_⟩
          clear hK K
          have w4le := g4.size
          try simp only [Act.put, List.setIfInBounds_toArray, List.set_cons_zero, List.set_cons_succ]
          refine gs_take (i := 12) (d := (some 59)) (v := ?_) rfl rfl (by kernel_rfl) (fun _ _ _ h => h) (by rfl) (by first | exact hT3 | exact hT2 | exact hT1 | exact hT0) (fun w' hb' => ?_) ?_
          rotate_left
          · (try go_simp); (try with_reducible rfl)
          try simp only [Act.put, List.setIfInBounds_toArray, List.set_cons_zero, List.set_cons_succ]
          refine gs_take (i := 13) (d := (some 72)) (v := ?_) rfl rfl (by kernel_rfl) (fun _ _ _ h => h) (by rfl) (by first | exact hT3 | exact hT2 | exact hT1 | exact hT0) (fun w' hb' => ?_) ?_
          rotate_left
          · (try go_simp); (try with_reducible rfl)
          try simp only [Act.put, List.setIfInBounds_toArray, List.set_cons_zero, List.set_cons_succ]
          refine gs_take (i := 14) (d := (some 73)) (v := ?_) rfl rfl (by kernel_rfl) (fun _ _ _ h => h) (by rfl) (by first | exact hT3 | exact hT2 | exact hT1 | exact hT0) (fun w' hb' => ?_) ?_
          rotate_left
          · (try go_simp); (try with_reducible rfl)
          try simp only [Act.put, List.setIfInBounds_toArray, List.set_cons_zero, List.set_cons_succ]
          refine gs_run (i := 15) rfl (by kernel_rfl) (by rfl) (fun K hK => ?_)
          go_simp
          obtain ⟨wA, hwA⟩ : ∃ z, z = w4.alloc (.cells #[.int .i64 0, .slice none 0 0, .slice none 0 0] 27) := ⟨_, rfl⟩
          have qA : wA.heap[w4.heap.size]? = some (.cells #[.int .i64 0, .slice none 0 0, .slice none 0 0] 27 (0, 0)) := by rw [hwA]; exact heap_alloc_new _ _
          have gA : Below w4.heap.size w4 wA := by rw [hwA]; exact (Below.refl _ _).alloc (Nat.le_refl _) _
          rw [← hwA]
          clear hwA
          have hT2 : wA.heap[b]? = wr.heap[b]? ∧ wA.heap[m8]? = some (.cells #[.int .i64 (n : Int), .slice ao3 X.length cap3, .slice aL L.length cL] 27 (0, 0)) := ⟨(gA.block b (Nat.lt_of_lt_of_le lb w4le)).trans hT1.1, (gA.block _ (Nat.lt_of_lt_of_le (lt_of_block q8) w4le)).trans hT1.2⟩
          refine hK _ _ ⟨hT2, ?_⟩
          clear hK K
          try simp only [Act.put, List.setIfInBounds_toArray, List.set_cons_zero, List.set_cons_succ]
          refine gs_run (i := 16) rfl (by kernel_rfl) (by rfl) (fun K hK => ?_)
          have bel6 : Below wr.drew.heap.size wr.drew wA := chain bel5 gA
          have OW6 := Lib.hid (own_below OW4.out gA)
          have hk13 : wr.heap.size ≤ w4.heap.size := w4le
          have hc := cells3 qA
          have hf := block_frozen qA
          have hm13 : m8 ≠ w4.heap.size := by have := lt_of_block q8; omega
          have hb13 : b ≠ w4.heap.size := by have := lb; simp at this; omega
          have hT3 : (((wA.setCell ⟨w4.heap.size, 0, none⟩ (.int .i64 (n : Int))).setCell ⟨w4.heap.size, 1, none⟩ (.slice ao3 X.length cap3)).setCell ⟨w4.heap.size, 2, none⟩ (.slice a4 m4 c4)).heap[b]? = wr.heap[b]? ∧ (((wA.setCell ⟨w4.heap.size, 0, none⟩ (.int .i64 (n : Int))).setCell ⟨w4.heap.size, 1, none⟩ (.slice ao3 X.length cap3)).setCell ⟨w4.heap.size, 2, none⟩ (.slice a4 m4 c4)).heap[m8]? = some (.cells #[.int .i64 (n : Int), .slice ao3 X.length cap3, .slice aL L.length cL] 27 (0, 0)) := ⟨(set3_old hb13).trans hT2.1, (set3_old hm13).trans hT2.2⟩
          have q14 := set3_new (u0 := .int .i64 (n : Int)) (u1 := .slice ao3 X.length cap3) (u2 := .slice a4 m4 c4) qA
          have bel7 : Below wr.drew.heap.size wr.drew (((wA.setCell ⟨w4.heap.size, 0, none⟩ (.int .i64 (n : Int))).setCell ⟨w4.heap.size, 1, none⟩ (.slice ao3 X.length cap3)).setCell ⟨w4.heap.size, 2, none⟩ (.slice a4 m4 c4)) := ((bel6.setCell (p := ⟨w4.heap.size, 0, none⟩) hk13 _).setCell (p := ⟨w4.heap.size, 1, none⟩) hk13 _).setCell (p := ⟨w4.heap.size, 2, none⟩) hk13 _
          have OW7 := Lib.hid (own_keepT (w' := (((wA.setCell ⟨w4.heap.size, 0, none⟩ (.int .i64 (n : Int))).setCell ⟨w4.heap.size, 1, none⟩ (.slice ao3 X.length cap3)).setCell ⟨w4.heap.size, 2, none⟩ (.slice a4 m4 c4))) OW6.out (fun k hk => set3_old hk) qA)
          have l13 : w4.heap.size < (((wA.setCell ⟨w4.heap.size, 0, none⟩ (.int .i64 (n : Int))).setCell ⟨w4.heap.size, 1, none⟩ (.slice ao3 X.length cap3)).setCell ⟨w4.heap.size, 2, none⟩ (.slice a4 m4 c4)).heap.size := lt_of_block q14
          go_simp
          refine hK _ _ ⟨hT3, ?_⟩
          clear hK K hc hf
          try simp only [Act.put, List.setIfInBounds_toArray, List.set_cons_zero, List.set_cons_succ]
          refine gs_take (i := 17) (d := (some 14)) (v := ?_) rfl rfl (by kernel_rfl) (fun _ _ _ h => h) (by rfl) (by first | exact hT3 | exact hT2 | exact hT1 | exact hT0) (fun w' hb' => ?_) ?_
          rotate_left
          · (try go_simp); (try with_reducible rfl)
          try simp only [Act.put, List.setIfInBounds_toArray, List.set_cons_zero, List.set_cons_succ]
          refine gs_done (by kernel_rfl) ?_
          obtain ⟨V, hV⟩ : ∃ V, V = (((wA.setCell ⟨w4.heap.size, 0, none⟩ (.int .i64 (n : Int))).setCell ⟨w4.heap.size, 1, none⟩ (.slice ao3 X.length cap3)).setCell ⟨w4.heap.size, 2, none⟩ (.slice a4 m4 c4)) := ⟨_, rfl⟩
          try rw [← hV] at hT3 q14 bel7 OW7 l13
          try rw [← hV]
          obtain ⟨k13, hk⟩ : ∃ k, k = w4.heap.size := ⟨_, rfl⟩
          rw [← hk] at q14 hm13 hk13 l13
          try rw [← hk]
          clear hV hk
          obtain ⟨u1, u2, u3⟩ := cells3 q14
          obtain ⟨u4, u5, u6⟩ := cells3 hT3.2
          have u7 := block_frozen hT3.2
          go_wp2_with fail
          have q9 := set3_new (u0 := .int .i64 (n : Int)) (u1 := .slice ao3 X.length cap3) (u2 := .slice a4 m4 c4) hT3.2
          have hT9 : (((V.setCell ⟨m8, 0, none⟩ (.int .i64 (n : Int))).setCell ⟨m8, 1, none⟩ (.slice ao3 X.length cap3)).setCell ⟨m8, 2, none⟩ (.slice a4 m4 c4)).heap[b]? = wr.heap[b]? := (set3_old (by omega)).trans hT3.1
          have BV : Below W.heap.size W V := chain bel.drew bel7
          have RGV := rgD.below bel7
          have rg9 := RGV.kept (w' := ((V.setCell ⟨m8, 0, none⟩ (.int .i64 (n : Int))).setCell ⟨m8, 1, none⟩ (.slice ao3 X.length cap3)).setCell ⟨m8, 2, none⟩ (.slice a4 m4 c4)) (fun k hk hown => set3_old (fun e => RGV.not_own hT3.2 (e ▸ hown)))
          have ow9 := own_keepT (w' := ((V.setCell ⟨m8, 0, none⟩ (.int .i64 (n : Int))).setCell ⟨m8, 1, none⟩ (.slice ao3 X.length cap3)).setCell ⟨m8, 2, none⟩ (.slice a4 m4 c4)) OW7.out (fun k hk => set3_old hk) hT3.2
          have bel9 : Below W.heap.size W (((V.setCell ⟨m8, 0, none⟩ (.int .i64 (n : Int))).setCell ⟨m8, 1, none⟩ (.slice ao3 X.length cap3)).setCell ⟨m8, 2, none⟩ (.slice a4 m4 c4)) := ((BV.setCell hWm _).setCell hWm _).setCell hWm _
          have sz9 : wr.heap.size ≤ (((V.setCell ⟨m8, 0, none⟩ (.int .i64 (n : Int))).setCell ⟨m8, 1, none⟩ (.slice ao3 X.length cap3)).setCell ⟨m8, 2, none⟩ (.slice a4 m4 c4)).heap.size := by have := bel7.size; simpa using this
          have hne9 : ∀ k, (Value.slice a4 m4 c4).ownBlock = some k → sv.ownBlock ≠ some k := by
            intro k hk e
            rcases LV4.out k hk with e2 | e2
            · exact HNE.out k e2 e
            · have := (rgD.row.lt k e).2; omega
          obtain ⟨V9, hV9⟩ : ∃ V9, V9 = ((V.setCell ⟨m8, 0, none⟩ (.int .i64 (n : Int))).setCell ⟨m8, 1, none⟩ (.slice ao3 X.length cap3)).setCell ⟨m8, 2, none⟩ (.slice a4 m4 c4) := ⟨_, rfl⟩
          rw [← hV9] at q9 hT9 rg9 ow9 bel9 sz9 ⊢
          clear hV9
          have rg9 := rg9.below (Below.refl V9.heap.size V9).drew
          have hU0 : V9.drew.heap[b]? = wr.heap[b]? ∧ V9.drew.heap[m8]? = some (.cells #[.int .i64 (n : Int), .slice ao3 X.length cap3, .slice a4 m4 c4] 27 (0, 0)) := ⟨hT9, q9⟩
          have lb9 : b < V9.drew.heap.size := Nat.lt_of_lt_of_le lb sz9
          have OW9 := Lib.hid (show V9.drew.ownsRow 0 39 5 (.slice a4 m4 c4) _ _ from ow9)
          have HNE9 := Lib.hid hne9
          have BEL9 := Lib.hid bel9.drew
          have OWN9 := Lib.hid (fun k hk => Nat.le_trans hWb (rg9.own_ge k hk))
          have sy := say_any base B M n X sv L sp t HWT.out V9.drew rg9 (by omega) (Nat.le_trans hbs sz9) HMAY.out
          unfold St.v at sy
          clear hne9 ow9 bel9 RGV u1 u2 u3 u4 u5 u6 u7 HMY bel7 q14 hT3 hT0 OW7 BV
          go_wp2_with fail
          refine gs_start (S := fun w' => w'.heap[b]? = wr.heap[b]? ∧ w'.heap[m8]? = some (.cells #[.int .i64 (n : Int), .slice ao3 X.length cap3, .slice a4 m4 c4] 27 (0, 0))) (by kernel_rfl) ?_
          refine gs_take (i := 0) (d := (some 75)) (v := ?_) rfl rfl (by kernel_rfl) (fun _ _ _ h => h) (by rfl) (by first | exact hU4 | exact hU3 | exact hU2 | exact hU1 | exact hU0) (fun w' hb' => ?_) ?_
          rotate_left
          · (try go_simp); (try with_reducible rfl)
          try simp only [Act.put, List.setIfInBounds_toArray, List.set_cons_zero, List.set_cons_succ]
          refine gs_take (i := 1) (d := (some 76)) (v := ?_) rfl rfl (by kernel_rfl) (fun _ _ _ h => h) (by rfl) (by first | exact hU4 | exact hU3 | exact hU2 | exact hU1 | exact hU0) (fun w' hb' => ?_) ?_
          rotate_left
          · (try go_simp); (try with_reducible rfl)
          try simp only [Act.put, List.setIfInBounds_toArray, List.set_cons_zero, List.set_cons_succ]
          refine gs_take (i := 2) (d := (some 77)) (v := ?_) rfl rfl (by kernel_rfl) (fun _ _ _ h => h) (by rfl) (by first | exact hU4 | exact hU3 | exact hU2 | exact hU1 | exact hU0) (fun w' hb' => ?_) ?_
          rotate_left
          · (try go_simp); (try with_reducible rfl)
          try simp only [Act.put, List.setIfInBounds_toArray, List.set_cons_zero, List.set_cons_succ]
          refine gs_take (i := 3) (d := (some 78)) (v := ?_) rfl rfl (by kernel_rfl) (fun _ _ _ h => h) (by rfl) (by first | exact hU4 | exact hU3 | exact hU2 | exact hU1 | exact hU0) (fun w' hb' => ?_) ?_
          rotate_left
          · (try go_simp); (try with_reducible rfl)
          try simp only [Act.put, List.setIfInBounds_toArray, List.set_cons_zero, List.set_cons_succ]
          refine gs_take (i := 4) (d := (some 79)) (v := ?_) rfl rfl (by kernel_rfl) (fun _ _ _ h => h) (by rfl) (by first | exact hU4 | exact hU3 | exact hU2 | exact hU1 | exact hU0) (fun w' hb' => ?_) ?_
          rotate_left
          · (try go_simp); (try with_reducible rfl)
          try simp only [Act.put, List.setIfInBounds_toArray, List.set_cons_zero, List.set_cons_succ]
          refine gs_take (i := 5) (d := (some 80)) (v := ?_) rfl rfl (by kernel_rfl) (fun _ _ _ h => h) (by rfl) (by first | exact hU4 | exact hU3 | exact hU2 | exact hU1 | exact hU0) (fun w' hb' => ?_) ?_
          rotate_left
          · have hc := (AC.out _ hb'.1).1; (try go_simp); (try with_reducible rfl)
          try simp only [Act.put, List.setIfInBounds_toArray, List.set_cons_zero, List.set_cons_succ]
          refine gs_take (i := 6) (d := (some 81)) (v := ?_) rfl rfl (by kernel_rfl) (fun _ _ _ h => h) (by rfl) (by first | exact hU4 | exact hU3 | exact hU2 | exact hU1 | exact hU0) (fun w' hb' => ?_) ?_
          rotate_left
          · (try go_simp); (try with_reducible rfl)
          try simp only [Act.put, List.setIfInBounds_toArray, List.set_cons_zero, List.set_cons_succ]
          refine gs_take (i := 7) (d := (some 82)) (v := ?_) rfl rfl (by kernel_rfl) (fun _ _ _ h => h) (by rfl) (by first | exact hU4 | exact hU3 | exact hU2 | exact hU1 | exact hU0) (fun w' hb' => ?_) ?_
          rotate_left
          · (try go_simp); (try with_reducible rfl)
          try simp only [Act.put, List.setIfInBounds_toArray, List.set_cons_zero, List.set_cons_succ]
          refine gs_take (i := 8) (d := (some 83)) (v := ?_) rfl rfl (by kernel_rfl) (fun _ _ _ h => h) (by rfl) (by first | exact hU4 | exact hU3 | exact hU2 | exact hU1 | exact hU0) (fun w' hb' => ?_) ?_
          rotate_left
          · (try go_simp); (try with_reducible rfl)
          try simp only [Act.put, List.setIfInBounds_toArray, List.set_cons_zero, List.set_cons_succ]
          refine gs_take (i := 9) (d := (some 84)) (v := ?_) rfl rfl (by kernel_rfl) (fun _ _ _ h => h) (by rfl) (by first | exact hU4 | exact hU3 | exact hU2 | exact hU1 | exact hU0) (fun w' hb' => ?_) ?_
          rotate_left
          · (try go_simp); (try with_reducible rfl)
          try simp only [Act.put, List.setIfInBounds_toArray, List.set_cons_zero, List.set_cons_succ]
          refine gs_take (i := 10) (d := (some 85)) (v := ?_) rfl rfl (by kernel_rfl) (fun _ _ _ h => h) (by rfl) (by first | exact hU4 | exact hU3 | exact hU2 | exact hU1 | exact hU0) (fun w' hb' => ?_) ?_
          rotate_left
          · have hc := (AC.out _ hb'.1).2; obtain ⟨k1, k2, k3, k4, k5⟩ := hc; (try go_simp); (try with_reducible rfl)
          try simp only [Act.put, List.setIfInBounds_toArray, List.set_cons_zero, List.set_cons_succ]
          refine gs_take (i := 12) (d := (some 87)) (v := ?_) rfl rfl (by kernel_rfl) (fun _ _ _ h => h) (by rfl) (by first | exact hU4 | exact hU3 | exact hU2 | exact hU1 | exact hU0) (fun w' hb' => ?_) ?_
          rotate_left
          · (try go_simp); (try with_reducible rfl)
          try simp only [Act.put, List.setIfInBounds_toArray, List.set_cons_zero, List.set_cons_succ]
          refine gs_run (i := 11) rfl (by kernel_rfl) (by rfl) (fun K hK => ?_)
          go_simp
          refine sy.mono ?_
          rintro e w6 ⟨rfl, sv6, rg6, t6, hsv6⟩
          have hU1 : w6.heap[b]? = wr.heap[b]? ∧ w6.heap[m8]? = some (.cells #[.int .i64 (n : Int), .slice ao3 X.length cap3, .slice a4 m4 c4] 27 (0, 0)) := ⟨(t6.block b lb9 (fun e => by have := rg9.own_ge b e; omega)).trans hU0.1, (t6.block m8 (lt_of_block hU0.2) (rg9.not_own hU0.2)).trans hU0.2⟩
          have ow6 := own_trn rg9 OW9.out t6 HNE9.out
          have HH := has_any base B M n (badOf X) sv6 _ t HWT.out w6 rg6
          unfold St.v at HH
          refine hK _ _ ⟨hU1, ?_⟩
          clear hK K
          try simp only [Act.put, List.setIfInBounds_toArray, List.set_cons_zero, List.set_cons_succ]
          refine gs_take (i := 13) (d := (some 88)) (v := ?_) rfl rfl (by kernel_rfl) (fun _ _ _ h => h) (by rfl) (by first | exact hU4 | exact hU3 | exact hU2 | exact hU1 | exact hU0) (fun w' hb' => ?_) ?_
          rotate_left
          · (try go_simp); (try with_reducible rfl)
          try simp only [Act.put, List.setIfInBounds_toArray, List.set_cons_zero, List.set_cons_succ]
          refine gs_take (i := 14) (d := (some 89)) (v := ?_) rfl rfl (by kernel_rfl) (fun _ _ _ h => h) (by rfl) (by first | exact hU4 | exact hU3 | exact hU2 | exact hU1 | exact hU0) (fun w' hb' => ?_) ?_
          rotate_left
          · (try go_simp); (try with_reducible rfl)
          try simp only [Act.put, List.setIfInBounds_toArray, List.set_cons_zero, List.set_cons_succ]
          refine gs_take (i := 15) (d := (some 90)) (v := ?_) rfl rfl (by kernel_rfl) (fun _ _ _ h => h) (by rfl) (by first | exact hU4 | exact hU3 | exact hU2 | exact hU1 | exact hU0) (fun w' hb' => ?_) ?_
          rotate_left
          · (try go_simp); (try with_reducible rfl)
          try simp only [Act.put, List.setIfInBounds_toArray, List.set_cons_zero, List.set_cons_succ]
          refine gs_take (i := 16) (d := (some 91)) (v := ?_) rfl rfl (by kernel_rfl) (fun _ _ _ h => h) (by rfl) (by first | exact hU4 | exact hU3 | exact hU2 | exact hU1 | exact hU0) (fun w' hb' => ?_) ?_
          rotate_left
          · (try go_simp); (try with_reducible rfl)
          try simp only [Act.put, List.setIfInBounds_toArray, List.set_cons_zero, List.set_cons_succ]
          refine gs_take (i := 17) (d := (some 92)) (v := ?_) rfl rfl (by kernel_rfl) (fun _ _ _ h => h) (by rfl) (by first | exact hU4 | exact hU3 | exact hU2 | exact hU1 | exact hU0) (fun w' hb' => ?_) ?_
          rotate_left
          · (try go_simp); (try with_reducible rfl)
          try simp only [Act.put, List.setIfInBounds_toArray, List.set_cons_zero, List.set_cons_succ]
          refine gs_take (i := 18) (d := (some 93)) (v := ?_) rfl rfl (by kernel_rfl) (fun _ _ _ h => h) (by rfl) (by first | exact hU4 | exact hU3 | exact hU2 | exact hU1 | exact hU0) (fun w' hb' => ?_) ?_
          rotate_left
          · (try go_simp); (try with_reducible rfl)
          try simp only [Act.put, List.setIfInBounds_toArray, List.set_cons_zero, List.set_cons_succ]
          refine gs_take (i := 19) (d := (some 94)) (v := ?_) rfl rfl (by kernel_rfl) (fun _ _ _ h => h) (by rfl) (by first | exact hU4 | exact hU3 | exact hU2 | exact hU1 | exact hU0) (fun w' hb' => ?_) ?_
          rotate_left
          · (try go_simp); (try with_reducible rfl)
          try simp only [Act.put, List.setIfInBounds_toArray, List.set_cons_zero, List.set_cons_succ]
          refine gs_take (i := 20) (d := (some 95)) (v := ?_) rfl rfl (by kernel_rfl) (fun _ _ _ h => h) (by rfl) (by first | exact hU4 | exact hU3 | exact hU2 | exact hU1 | exact hU0) (fun w' hb' => ?_) ?_
          rotate_left
          · have hc := (AC.out _ hb'.1).2; obtain ⟨k1, k2, k3, k4, k5⟩ := hc; (try go_simp); (try with_reducible rfl)
          try simp only [Act.put, List.setIfInBounds_toArray, List.set_cons_zero, List.set_cons_succ]
          refine gs_take (i := 22) (d := (some 97)) (v := ?_) rfl rfl (by kernel_rfl) (fun _ _ _ h => h) (by rfl) (by first | exact hU4 | exact hU3 | exact hU2 | exact hU1 | exact hU0) (fun w' hb' => ?_) ?_
          rotate_left
          · have hc := cells3 hb'.2; (try go_simp); (try with_reducible rfl)
          try simp only [Act.put, List.setIfInBounds_toArray, List.set_cons_zero, List.set_cons_succ]
          refine gs_take (i := 23) (d := (some 98)) (v := ?_) rfl rfl (by kernel_rfl) (fun _ _ _ h => h) (by rfl) (by first | exact hU4 | exact hU3 | exact hU2 | exact hU1 | exact hU0) (fun w' hb' => ?_) ?_
          rotate_left
          · (try go_simp); (try with_reducible rfl)
          try simp only [Act.put, List.setIfInBounds_toArray, List.set_cons_zero, List.set_cons_succ]
          refine gs_take (i := 24) (d := (some 99)) (v := ?_) rfl rfl (by kernel_rfl) (fun _ _ _ h => h) (by rfl) (by first | exact hU4 | exact hU3 | exact hU2 | exact hU1 | exact hU0) (fun w' hb' => ?_) ?_
          rotate_left
          · (try go_simp); (try with_reducible rfl)
          try simp only [Act.put, List.setIfInBounds_toArray, List.set_cons_zero, List.set_cons_succ]
          refine gs_take (i := 25) (d := (some 100)) (v := ?_) rfl rfl (by kernel_rfl) (fun _ _ _ h => h) (by rfl) (by first | exact hU4 | exact hU3 | exact hU2 | exact hU1 | exact hU0) (fun w' hb' => ?_) ?_
          rotate_left
          · (try go_simp); (try with_reducible rfl)
          try simp only [Act.put, List.setIfInBounds_toArray, List.set_cons_zero, List.set_cons_succ]
          refine gs_take (i := 26) (d := (some 101)) (v := ?_) rfl rfl (by kernel_rfl) (fun _ _ _ h => h) (by rfl) (by first | exact hU4 | exact hU3 | exact hU2 | exact hU1 | exact hU0) (fun w' hb' => ?_) ?_
          rotate_left
          · (try go_simp); (try with_reducible rfl)
          try simp only [Act.put, List.setIfInBounds_toArray, List.set_cons_zero, List.set_cons_succ]
          refine gs_take (i := 27) (d := (some 102)) (v := ?_) rfl rfl (by kernel_rfl) (fun _ _ _ h => h) (by rfl) (by first | exact hU4 | exact hU3 | exact hU2 | exact hU1 | exact hU0) (fun w' hb' => ?_) ?_
          rotate_left
          · have hc := (AC.out _ hb'.1).2; obtain ⟨k1, k2, k3, k4, k5⟩ := hc; (try go_simp); (try with_reducible rfl)
          try simp only [Act.put, List.setIfInBounds_toArray, List.set_cons_zero, List.set_cons_succ]
          refine gs_run (i := 21) rfl (by kernel_rfl) (by rfl) (fun K hK => ?_)
          go_simp
          refine HH.mono ?_
          rintro e w7 ⟨rfl, g7⟩
          have hU2 : w7.heap[b]? = wr.heap[b]? ∧ w7.heap[m8]? = some (.cells #[.int .i64 (n : Int), .slice ao3 X.length cap3, .slice a4 m4 c4] 27 (0, 0)) := ⟨(g7.block b (Nat.lt_of_lt_of_le lb9 t6.size)).trans hU1.1, (g7.block _ (lt_of_block hU1.2)).trans hU1.2⟩
          have ow7 := own_below ow6 g7
          have RH := refHas_any (n : Int) (.slice ao3 X.length cap3) (.slice a4 m4 c4) _ (by have := hL2l.out; omega) t w7 ⟨_, _, _, rfl⟩ (own_rds ow7 rg6.wf (by have := hL2l.out; omega))
          unfold St.v at RH
          refine hK _ _ ⟨hU2, ?_⟩
          clear hK K
          try simp only [Act.put, List.setIfInBounds_toArray, List.set_cons_zero, List.set_cons_succ]
          refine gs_run (i := 28) rfl (by kernel_rfl) (by rfl) (fun K hK => ?_)
          go_simp
          refine RH.mono ?_
          rintro e w8 ⟨rfl, g8⟩
          have hU3 : w8.heap[b]? = wr.heap[b]? ∧ w8.heap[m8]? = some (.cells #[.int .i64 (n : Int), .slice ao3 X.length cap3, .slice a4 m4 c4] 27 (0, 0)) := ⟨(g8.block b (Nat.lt_of_lt_of_le lb9 (Nat.le_trans t6.size g7.size))).trans hU2.1, (g8.block _ (lt_of_block hU2.2)).trans hU2.2⟩
          have BD := bad_any base B M n (badOf X) sv6 _ sp w8 ((rg6.below g7).below g8)
          rw [badB_eq HMAY.out] at BD
          refine hK _ _ ⟨hU3, ?_⟩
          clear hK K
          try simp only [Act.put, List.setIfInBounds_toArray, List.set_cons_zero, List.set_cons_succ]
          refine gs_take (i := 29) (d := (some 104)) (v := ?_) rfl rfl (by kernel_rfl) (fun _ _ _ h => h) (by rfl) (by first | exact hU4 | exact hU3 | exact hU2 | exact hU1 | exact hU0) (fun w' hb' => ?_) ?_
          rotate_left
          · (try go_simp); (try with_reducible rfl)
          try simp only [Act.put, List.setIfInBounds_toArray, List.set_cons_zero, List.set_cons_succ]
          refine gs_take (i := 30) (d := (some 105)) (v := ?_) rfl rfl (by kernel_rfl) (fun _ _ _ h => h) (by rfl) (by first | exact hU4 | exact hU3 | exact hU2 | exact hU1 | exact hU0) (fun w' hb' => ?_) ?_
          rotate_left
          · (try go_simp); (try with_reducible rfl)
          try simp only [Act.put, List.setIfInBounds_toArray, List.set_cons_zero, List.set_cons_succ]
          refine gs_take (i := 31) (d := (some 106)) (v := ?_) rfl rfl (by kernel_rfl) (fun _ _ _ h => h) (by rfl) (by first | exact hU4 | exact hU3 | exact hU2 | exact hU1 | exact hU0) (fun w' hb' => ?_) ?_
          rotate_left
          · (try go_simp); (try with_reducible rfl)
          try simp only [Act.put, List.setIfInBounds_toArray, List.set_cons_zero, List.set_cons_succ]
          refine gs_take (i := 32) (d := (some 107)) (v := ?_) rfl rfl (by kernel_rfl) (fun _ _ _ h => h) (by rfl) (by first | exact hU4 | exact hU3 | exact hU2 | exact hU1 | exact hU0) (fun w' hb' => ?_) ?_
          rotate_left
          · (try go_simp); (try with_reducible rfl)
          try simp only [Act.put, List.setIfInBounds_toArray, List.set_cons_zero, List.set_cons_succ]
          refine gs_take (i := 33) (d := (some 108)) (v := ?_) rfl rfl (by kernel_rfl) (fun _ _ _ h => h) (by rfl) (by first | exact hU4 | exact hU3 | exact hU2 | exact hU1 | exact hU0) (fun w' hb' => ?_) ?_
          rotate_left
          · (try go_simp); (try with_reducible rfl)
          try simp only [Act.put, List.setIfInBounds_toArray, List.set_cons_zero, List.set_cons_succ]
          refine gs_take (i := 34) (d := (some 109)) (v := ?_) rfl rfl (by kernel_rfl) (fun _ _ _ h => h) (by rfl) (by first | exact hU4 | exact hU3 | exact hU2 | exact hU1 | exact hU0) (fun w' hb' => ?_) ?_
          rotate_left
          · (try go_simp); (try with_reducible rfl)
          try simp only [Act.put, List.setIfInBounds_toArray, List.set_cons_zero, List.set_cons_succ]
          refine gs_take (i := 35) (d := (some 110)) (v := ?_) rfl rfl (by kernel_rfl) (fun _ _ _ h => h) (by rfl) (by first | exact hU4 | exact hU3 | exact hU2 | exact hU1 | exact hU0) (fun w' hb' => ?_) ?_
          rotate_left
          · (try go_simp); (try with_reducible rfl)
          try simp only [Act.put, List.setIfInBounds_toArray, List.set_cons_zero, List.set_cons_succ]
          refine gs_take (i := 36) (d := (some 111)) (v := ?_) rfl rfl (by kernel_rfl) (fun _ _ _ h => h) (by rfl) (by first | exact hU4 | exact hU3 | exact hU2 | exact hU1 | exact hU0) (fun w' hb' => ?_) ?_
          rotate_left
          · (try go_simp); (try with_reducible rfl)
          try simp only [Act.put, List.setIfInBounds_toArray, List.set_cons_zero, List.set_cons_succ]
          refine gs_take (i := 37) (d := (some 112)) (v := ?_) rfl rfl (by kernel_rfl) (fun _ _ _ h => h) (by rfl) (by first | exact hU4 | exact hU3 | exact hU2 | exact hU1 | exact hU0) (fun w' hb' => ?_) ?_
          rotate_left
          · have hc := (AC.out _ hb'.1).1; (try go_simp); (try with_reducible rfl)
          try simp only [Act.put, List.setIfInBounds_toArray, List.set_cons_zero, List.set_cons_succ]
          refine gs_take (i := 39) (d := (some 114)) (v := ?_) rfl rfl (by kernel_rfl) (fun _ _ _ h => h) (by rfl) (by first | exact hU4 | exact hU3 | exact hU2 | exact hU1 | exact hU0) (fun w' hb' => ?_) ?_
          rotate_left
          · have hc := cells3 hb'.2; (try go_simp); (try with_reducible rfl)
          try simp only [Act.put, List.setIfInBounds_toArray, List.set_cons_zero, List.set_cons_succ]
          refine gs_take (i := 40) (d := (some 115)) (v := ?_) rfl rfl (by kernel_rfl) (fun _ _ _ h => h) (by rfl) (by first | exact hU4 | exact hU3 | exact hU2 | exact hU1 | exact hU0) (fun w' hb' => ?_) ?_
          rotate_left
          · (try go_simp); (try with_reducible rfl)
          try simp only [Act.put, List.setIfInBounds_toArray, List.set_cons_zero, List.set_cons_succ]
          refine gs_take (i := 41) (d := (some 116)) (v := ?_) rfl rfl (by kernel_rfl) (fun _ _ _ h => h) (by rfl) (by first | exact hU4 | exact hU3 | exact hU2 | exact hU1 | exact hU0) (fun w' hb' => ?_) ?_
          rotate_left
          · (try go_simp); (try with_reducible rfl)
          try simp only [Act.put, List.setIfInBounds_toArray, List.set_cons_zero, List.set_cons_succ]
          refine gs_take (i := 42) (d := (some 117)) (v := ?_) rfl rfl (by kernel_rfl) (fun _ _ _ h => h) (by rfl) (by first | exact hU4 | exact hU3 | exact hU2 | exact hU1 | exact hU0) (fun w' hb' => ?_) ?_
          rotate_left
          · (try go_simp); (try with_reducible rfl)
          try simp only [Act.put, List.setIfInBounds_toArray, List.set_cons_zero, List.set_cons_succ]
          refine gs_take (i := 43) (d := (some 118)) (v := ?_) rfl rfl (by kernel_rfl) (fun _ _ _ h => h) (by rfl) (by first | exact hU4 | exact hU3 | exact hU2 | exact hU1 | exact hU0) (fun w' hb' => ?_) ?_
          rotate_left
          · (try go_simp); (try with_reducible rfl)
          try simp only [Act.put, List.setIfInBounds_toArray, List.set_cons_zero, List.set_cons_succ]
          refine gs_take (i := 44) (d := (some 119)) (v := ?_) rfl rfl (by kernel_rfl) (fun _ _ _ h => h) (by rfl) (by first | exact hU4 | exact hU3 | exact hU2 | exact hU1 | exact hU0) (fun w' hb' => ?_) ?_
          rotate_left
          · have hc := (AC.out _ hb'.1).1; (try go_simp); (try with_reducible rfl)
          try simp only [Act.put, List.setIfInBounds_toArray, List.set_cons_zero, List.set_cons_succ]
          refine gs_run (i := 38) rfl (by kernel_rfl) (by rfl) (fun K hK => ?_)
          go_simp
          refine BD.mono ?_
          rintro e w88 ⟨rfl, rfl⟩
          have RB := refBad_any (n : Int) (.slice ao3 X.length cap3) (.slice a4 m4 c4) X (by omega) sp w8 (RVX.out _ (chain (chain (below_trn BEL9.out t6 OWN9.out) g7) g8)) ⟨_, _, _, rfl⟩
          refine hK _ _ ⟨hU3, ?_⟩
          clear hK K
          try simp only [Act.put, List.setIfInBounds_toArray, List.set_cons_zero, List.set_cons_succ]
          refine gs_run (i := 45) rfl (by kernel_rfl) (by rfl) (fun K hK => ?_)
          go_simp
          refine RB.mono ?_
          rintro e w9 ⟨rfl, g9⟩
          have hU4 : w9.heap[b]? = wr.heap[b]? ∧ w9.heap[m8]? = some (.cells #[.int .i64 (n : Int), .slice ao3 X.length cap3, .slice a4 m4 c4] 27 (0, 0)) := ⟨(g9.block b (Nat.lt_of_lt_of_le lb9 (Nat.le_trans t6.size (Nat.le_trans g7.size g8.size)))).trans hU3.1, (g9.block _ (lt_of_block hU3.2)).trans hU3.2⟩
          refine hK _ _ ⟨hU4, ?_⟩
          clear hK K
          try simp only [Act.put, List.setIfInBounds_toArray, List.set_cons_zero, List.set_cons_succ]
          refine gs_take (i := 46) (d := (some 121)) (v := ?_) rfl rfl (by kernel_rfl) (fun _ _ _ h => h) (by rfl) (by first | exact hU4 | exact hU3 | exact hU2 | exact hU1 | exact hU0) (fun w' hb' => ?_) ?_
          rotate_left
          · (try go_simp); (try with_reducible rfl)
          try simp only [Act.put, List.setIfInBounds_toArray, List.set_cons_zero, List.set_cons_succ]
          refine gs_take (i := 47) (d := (some 122)) (v := ?_) rfl rfl (by kernel_rfl) (fun _ _ _ h => h) (by rfl) (by first | exact hU4 | exact hU3 | exact hU2 | exact hU1 | exact hU0) (fun w' hb' => ?_) ?_
          rotate_left
          · (try go_simp); (try with_reducible rfl)
          try simp only [Act.put, List.setIfInBounds_toArray, List.set_cons_zero, List.set_cons_succ]
          refine gs_done (by kernel_rfl) ?_
          have bel10 : Below W.heap.size W w9 := chain (chain (chain (below_trn BEL9.out t6 OWN9.out) g7) g8) g9
          have rg10 := ((rg6.below g7).below g8).below g9
          have ow10 := own_below (own_below ow7 g8) g9
          have hne10 : ∀ k, (Value.slice a4 m4 c4).ownBlock = some k → sv6.ownBlock ≠ some k := by
            intro k hk e
            rcases hsv6 k e with e2 | e2
            · exact HNE9.out k hk e2
            · have := (OW9.out.lt k hk).2; omega
          have hb10 : base ≤ w9.heap.size := Nat.le_trans hbs (Nat.le_trans sz9 (Nat.le_trans t6.size (Nat.le_trans g7.size (Nat.le_trans g8.size g9.size))))
          rw [← HREC.out] at rg10 ow10
          have RG10 := Lib.hid rg10
          have OW10 := Lib.hid ow10
          have HNE10 := Lib.hid hne10
          have q10 := hU4.2
          clear rg10 ow10 hne10 rg6 t6 hsv6 rg9 sy HH RH BD RB ow6 ow7
          go_wp2_with fail
          go_roundw
          case rel => exact ⟨j + 1, by omega, by go_num, bel10, hb10, sv6, _, RG10.out, q10, OW10.out, HNE10.out⟩
          case measure => simp [intOf]; omega
        · skip
          go_simp
          obtain ⟨wA, hwA⟩ : ∃ z, z = (wr.alloc (.cells #[.int .i64 0, .slice none 0 0, .slice none 0 0] 27)).drew := ⟨_, rfl⟩
          have qA : wA.heap[wr.heap.size]? = some (.cells #[.int .i64 0, .slice none 0 0, .slice none 0 0] 27 (0, 0)) := by rw [hwA]; exact heap_alloc_new wr _
          have belA : Below wr.drew.heap.size wr.drew wA := by rw [hwA]; exact (show Below wr.drew.heap.size wr.drew (wr.drew.alloc (.cells #[.int .i64 0, .slice none 0 0, .slice none 0 0] 27)) from (Below.refl _ _).alloc (Nat.le_refl _) _)
          try rw [← hwA]
          clear hwA
          have hT2 : wA.heap[b]? = wr.heap[b]? ∧ wA.heap[m8]? = some (.cells #[.int .i64 (n : Int), .slice ao3 X.length cap3, .slice aL L.length cL] 27 (0, 0)) := ⟨(belA.block b lb).trans hT0.1, (belA.block _ (lt_of_block q8)).trans hT0.2⟩
          refine hK _ _ ⟨hT2, ?_⟩
          clear hK K
          try simp only [Act.put, List.setIfInBounds_toArray, List.set_cons_zero, List.set_cons_succ]
          refine gs_run (i := 11) rfl (by kernel_rfl) (by rfl) (fun K hK => ?_)
          go_simp
          refine (HMY.out _ belA).mono ?_
          rintro e w4 ⟨g4, lv4, rfl, ow4, hlv4⟩
          obtain ⟨a4, m4, c4, rfl⟩ := own_slice ow4
          have q13 := (g4.block _ (lt_of_block qA)).trans qA
          have bel5 := chain belA g4
          have LV4 := Lib.hid (fun k hk => (hlv4 k hk).imp id (fun h => Nat.le_trans belA.size h))
          have hT1 : w4.heap[b]? = wr.heap[b]? ∧ w4.heap[m8]? = some (.cells #[.int .i64 (n : Int), .slice ao3 X.length cap3, .slice aL L.length cL] 27 (0, 0)) := ⟨(bel5.block b lb).trans hT0.1, (bel5.block _ (lt_of_block q8)).trans hT0.2⟩
          have OW4 := Lib.hid ow4
          clear ow4 hlv4
          refine hK _ _ ⟨hT1, ?_⟩
          clear hK K
          try simp only [Act.put, List.setIfInBounds_toArray, List.set_cons_zero, List.set_cons_succ]
          refine gs_take (i := 12) (d := (some 59)) (v := ?_) rfl rfl (by kernel_rfl) (fun _ _ _ h => h) (by rfl) (by first | exact hT3 | exact hT2 | exact hT1 | exact hT0) (fun w' hb' => ?_) ?_
          rotate_left
          · (try go_simp); (try with_reducible rfl)
          try simp only [Act.put, List.setIfInBounds_toArray, List.set_cons_zero, List.set_cons_succ]
          refine gs_take (i := 13) (d := (some 72)) (v := ?_) rfl rfl (by kernel_rfl) (fun _ _ _ h => h) (by rfl) (by first | exact hT3 | exact hT2 | exact hT1 | exact hT0) (fun w' hb' => ?_) ?_
          rotate_left
          · (try go_simp); (try with_reducible rfl)
          try simp only [Act.put, List.setIfInBounds_toArray, List.set_cons_zero, List.set_cons_succ]
          refine gs_take (i := 14) (d := (some 73)) (v := ?_) rfl rfl (by kernel_rfl) (fun _ _ _ h => h) (by rfl) (by first | exact hT3 | exact hT2 | exact hT1 | exact hT0) (fun w' hb' => ?_) ?_
          rotate_left
          · (try go_simp); (try with_reducible rfl)
          try simp only [Act.put, List.setIfInBounds_toArray, List.set_cons_zero, List.set_cons_succ]
          refine gs_run (i := 16) rfl (by kernel_rfl) (by rfl) (fun K hK => ?_)
          have bel6 : Below wr.drew.heap.size wr.drew w4 := bel5
          have OW6 := OW4
          have hk13 : wr.heap.size ≤ wr.heap.size := Nat.le_refl _
          have hc := cells3 q13
          have hf := block_frozen q13
          have hm13 : m8 ≠ wr.heap.size := by have := lt_of_block q8; omega
          have hb13 : b ≠ wr.heap.size := by have := lb; simp at this; omega
          have hT3 : (((w4.setCell ⟨wr.heap.size, 0, none⟩ (.int .i64 (n : Int))).setCell ⟨wr.heap.size, 1, none⟩ (.slice ao3 X.length cap3)).setCell ⟨wr.heap.size, 2, none⟩ (.slice a4 m4 c4)).heap[b]? = wr.heap[b]? ∧ (((w4.setCell ⟨wr.heap.size, 0, none⟩ (.int .i64 (n : Int))).setCell ⟨wr.heap.size, 1, none⟩ (.slice ao3 X.length cap3)).setCell ⟨wr.heap.size, 2, none⟩ (.slice a4 m4 c4)).heap[m8]? = some (.cells #[.int .i64 (n : Int), .slice ao3 X.length cap3, .slice aL L.length cL] 27 (0, 0)) := ⟨(set3_old hb13).trans hT1.1, (set3_old hm13).trans hT1.2⟩
          have q14 := set3_new (u0 := .int .i64 (n : Int)) (u1 := .slice ao3 X.length cap3) (u2 := .slice a4 m4 c4) q13
          have bel7 : Below wr.drew.heap.size wr.drew (((w4.setCell ⟨wr.heap.size, 0, none⟩ (.int .i64 (n : Int))).setCell ⟨wr.heap.size, 1, none⟩ (.slice ao3 X.length cap3)).setCell ⟨wr.heap.size, 2, none⟩ (.slice a4 m4 c4)) := ((bel6.setCell (p := ⟨wr.heap.size, 0, none⟩) hk13 _).setCell (p := ⟨wr.heap.size, 1, none⟩) hk13 _).setCell (p := ⟨wr.heap.size, 2, none⟩) hk13 _
          have OW7 := Lib.hid (own_keepT (w' := (((w4.setCell ⟨wr.heap.size, 0, none⟩ (.int .i64 (n : Int))).setCell ⟨wr.heap.size, 1, none⟩ (.slice ao3 X.length cap3)).setCell ⟨wr.heap.size, 2, none⟩ (.slice a4 m4 c4))) OW6.out (fun k hk => set3_old hk) q13)
          have l13 : wr.heap.size < (((w4.setCell ⟨wr.heap.size, 0, none⟩ (.int .i64 (n : Int))).setCell ⟨wr.heap.size, 1, none⟩ (.slice ao3 X.length cap3)).setCell ⟨wr.heap.size, 2, none⟩ (.slice a4 m4 c4)).heap.size := lt_of_block q14
          go_simp
          refine hK _ _ ⟨hT3, ?_⟩
          clear hK K hc hf
          try simp only [Act.put, List.setIfInBounds_toArray, List.set_cons_zero, List.set_cons_succ]
          refine gs_take (i := 17) (d := (some 14)) (v := ?_) rfl rfl (by kernel_rfl) (fun _ _ _ h => h) (by rfl) (by first | exact hT3 | exact hT2 | exact hT1 | exact hT0) (fun w' hb' => ?_) ?_
          rotate_left
          · (try go_simp); (try with_reducible rfl)
          try simp only [Act.put, List.setIfInBounds_toArray, List.set_cons_zero, List.set_cons_succ]
          refine gs_done (by kernel_rfl) ?_
          obtain ⟨V, hV⟩ : ∃ V, V = (((w4.setCell ⟨wr.heap.size, 0, none⟩ (.int .i64 (n : Int))).setCell ⟨wr.heap.size, 1, none⟩ (.slice ao3 X.length cap3)).setCell ⟨wr.heap.size, 2, none⟩ (.slice a4 m4 c4)) := ⟨_, rfl⟩
          try rw [← hV] at hT3 q14 bel7 OW7 l13
          try rw [← hV]
          obtain ⟨k13, hk⟩ : ∃ k, k = wr.heap.size := ⟨_, rfl⟩
          rw [← hk] at q14 hm13 hk13 l13
          try rw [← hk]
          clear hV hk
          obtain ⟨u1, u2, u3⟩ := cells3 q14
          obtain ⟨u4, u5, u6⟩ := cells3 hT3.2
          have u7 := block_frozen hT3.2
          go_wp2_with fail
          have q9 := set3_new (u0 := .int .i64 (n : Int)) (u1 := .slice ao3 X.length cap3) (u2 := .slice a4 m4 c4) hT3.2
          have hT9 : (((V.setCell ⟨m8, 0, none⟩ (.int .i64 (n : Int))).setCell ⟨m8, 1, none⟩ (.slice ao3 X.length cap3)).setCell ⟨m8, 2, none⟩ (.slice a4 m4 c4)).heap[b]? = wr.heap[b]? := (set3_old (by omega)).trans hT3.1
          have BV : Below W.heap.size W V := chain bel.drew bel7
          have RGV := rgD.below bel7
          have rg9 := RGV.kept (w' := ((V.setCell ⟨m8, 0, none⟩ (.int .i64 (n : Int))).setCell ⟨m8, 1, none⟩ (.slice ao3 X.length cap3)).setCell ⟨m8, 2, none⟩ (.slice a4 m4 c4)) (fun k hk hown => set3_old (fun e => RGV.not_own hT3.2 (e ▸ hown)))
          have ow9 := own_keepT (w' := ((V.setCell ⟨m8, 0, none⟩ (.int .i64 (n : Int))).setCell ⟨m8, 1, none⟩ (.slice ao3 X.length cap3)).setCell ⟨m8, 2, none⟩ (.slice a4 m4 c4)) OW7.out (fun k hk => set3_old hk) hT3.2
          have bel9 : Below W.heap.size W (((V.setCell ⟨m8, 0, none⟩ (.int .i64 (n : Int))).setCell ⟨m8, 1, none⟩ (.slice ao3 X.length cap3)).setCell ⟨m8, 2, none⟩ (.slice a4 m4 c4)) := ((BV.setCell hWm _).setCell hWm _).setCell hWm _
          have sz9 : wr.heap.size ≤ (((V.setCell ⟨m8, 0, none⟩ (.int .i64 (n : Int))).setCell ⟨m8, 1, none⟩ (.slice ao3 X.length cap3)).setCell ⟨m8, 2, none⟩ (.slice a4 m4 c4)).heap.size := by have := bel7.size; simpa using this
          have hne9 : ∀ k, (Value.slice a4 m4 c4).ownBlock = some k → sv.ownBlock ≠ some k := by
            intro k hk e
            rcases LV4.out k hk with e2 | e2
            · exact HNE.out k e2 e
            · have := (rgD.row.lt k e).2; omega
          obtain ⟨V9, hV9⟩ : ∃ V9, V9 = ((V.setCell ⟨m8, 0, none⟩ (.int .i64 (n : Int))).setCell ⟨m8, 1, none⟩ (.slice ao3 X.length cap3)).setCell ⟨m8, 2, none⟩ (.slice a4 m4 c4) := ⟨_, rfl⟩
          rw [← hV9] at q9 hT9 rg9 ow9 bel9 sz9 ⊢
          clear hV9
          have rg9 := rg9.below (Below.refl V9.heap.size V9).drew
          have hU0 : V9.drew.heap[b]? = wr.heap[b]? ∧ V9.drew.heap[m8]? = some (.cells #[.int .i64 (n : Int), .slice ao3 X.length cap3, .slice a4 m4 c4] 27 (0, 0)) := ⟨hT9, q9⟩
          have lb9 : b < V9.drew.heap.size := Nat.lt_of_lt_of_le lb sz9
          have OW9 := Lib.hid (show V9.drew.ownsRow 0 39 5 (.slice a4 m4 c4) _ _ from ow9)
          have HNE9 := Lib.hid hne9
          have BEL9 := Lib.hid bel9.drew
          have OWN9 := Lib.hid (fun k hk => Nat.le_trans hWb (rg9.own_ge k hk))
          have sy := say_any base B M n X sv L sp t HWT.out V9.drew rg9 (by omega) (Nat.le_trans hbs sz9) HMAY.out
          unfold St.v at sy
          clear hne9 ow9 bel9 RGV u1 u2 u3 u4 u5 u6 u7 HMY bel7 q14 hT3 hT0 OW7 BV
          go_wp2_with fail
          refine gs_start (S := fun w' => w'.heap[b]? = wr.heap[b]? ∧ w'.heap[m8]? = some (.cells #[.int .i64 (n : Int), .slice ao3 X.length cap3, .slice a4 m4 c4] 27 (0, 0))) (by kernel_rfl) ?_
          refine gs_take (i := 0) (d := (some 75)) (v := ?_) rfl rfl (by kernel_rfl) (fun _ _ _ h => h) (by rfl) (by first | exact hU4 | exact hU3 | exact hU2 | exact hU1 | exact hU0) (fun w' hb' => ?_) ?_
          rotate_left
          · (try go_simp); (try with_reducible rfl)
          try simp only [Act.put, List.setIfInBounds_toArray, List.set_cons_zero, List.set_cons_succ]
          refine gs_take (i := 1) (d := (some 76)) (v := ?_) rfl rfl (by kernel_rfl) (fun _ _ _ h => h) (by rfl) (by first | exact hU4 | exact hU3 | exact hU2 | exact hU1 | exact hU0) (fun w' hb' => ?_) ?_
          rotate_left
          · (try go_simp); (try with_reducible rfl)
          try simp only [Act.put, List.setIfInBounds_toArray, List.set_cons_zero, List.set_cons_succ]
          refine gs_take (i := 2) (d := (some 77)) (v := ?_) rfl rfl (by kernel_rfl) (fun _ _ _ h => h) (by rfl) (by first | exact hU4 | exact hU3 | exact hU2 | exact hU1 | exact hU0) (fun w' hb' => ?_) ?_
          rotate_left
          · (try go_simp); (try with_reducible rfl)
          try simp only [Act.put, List.setIfInBounds_toArray, List.set_cons_zero, List.set_cons_succ]
          refine gs_take (i := 3) (d := (some 78)) (v := ?_) rfl rfl (by kernel_rfl) (fun _ _ _ h => h) (by rfl) (by first | exact hU4 | exact hU3 | exact hU2 | exact hU1 | exact hU0) (fun w' hb' => ?_) ?_
          rotate_left
          · (try go_simp); (try with_reducible rfl)
          try simp only [Act.put, List.setIfInBounds_toArray, List.set_cons_zero, List.set_cons_succ]
          refine gs_take (i := 4) (d := (some 79)) (v := ?_) rfl rfl (by kernel_rfl) (fun _ _ _ h => h) (by rfl) (by first | exact hU4 | exact hU3 | exact hU2 | exact hU1 | exact hU0) (fun w' hb' => ?_) ?_
          rotate_left
          · (try go_simp); (try with_reducible rfl)
          try simp only [Act.put, List.setIfInBounds_toArray, List.set_cons_zero, List.set_cons_succ]
          refine gs_take (i := 5) (d := (some 80)) (v := ?_) rfl rfl (by kernel_rfl) (fun _ _ _ h => h) (by rfl) (by first | exact hU4 | exact hU3 | exact hU2 | exact hU1 | exact hU0) (fun w' hb' => ?_) ?_
          rotate_left
          · have hc := (AC.out _ hb'.1).1; (try go_simp); (try with_reducible rfl)
          try simp only [Act.put, List.setIfInBounds_toArray, List.set_cons_zero, List.set_cons_succ]
          refine gs_take (i := 6) (d := (some 81)) (v := ?_) rfl rfl (by kernel_rfl) (fun _ _ _ h => h) (by rfl) (by first | exact hU4 | exact hU3 | exact hU2 | exact hU1 | exact hU0) (fun w' hb' => ?_) ?_
          rotate_left
          · (try go_simp); (try with_reducible rfl)
          try simp only [Act.put, List.setIfInBounds_toArray, List.set_cons_zero, List.set_cons_succ]
          refine gs_take (i := 7) (d := (some 82)) (v := ?_) rfl rfl (by kernel_rfl) (fun _ _ _ h => h) (by rfl) (by first | exact hU4 | exact hU3 | exact hU2 | exact hU1 | exact hU0) (fun w' hb' => ?_) ?_
          rotate_left
          · (try go_simp); (try with_reducible rfl)
          try simp only [Act.put, List.setIfInBounds_toArray, List.set_cons_zero, List.set_cons_succ]
          refine gs_take (i := 8) (d := (some 83)) (v := ?_) rfl rfl (by kernel_rfl) (fun _ _ _ h => h) (by rfl) (by first | exact hU4 | exact hU3 | exact hU2 | exact hU1 | exact hU0) (fun w' hb' => ?_) ?_
          rotate_left
          · (try go_simp); (try with_reducible rfl)
          try simp only [Act.put, List.setIfInBounds_toArray, List.set_cons_zero, List.set_cons_succ]
          refine gs_take (i := 9) (d := (some 84)) (v := ?_) rfl rfl (by kernel_rfl) (fun _ _ _ h => h) (by rfl) (by first | exact hU4 | exact hU3 | exact hU2 | exact hU1 | exact hU0) (fun w' hb' => ?_) ?_
          rotate_left
          · (try go_simp); (try with_reducible rfl)
          try simp only [Act.put, List.setIfInBounds_toArray, List.set_cons_zero, List.set_cons_succ]
          refine gs_take (i := 10) (d := (some 85)) (v := ?_) rfl rfl (by kernel_rfl) (fun _ _ _ h => h) (by rfl) (by first | exact hU4 | exact hU3 | exact hU2 | exact hU1 | exact hU0) (fun w' hb' => ?_) ?_
          rotate_left
          · have hc := (AC.out _ hb'.1).2; obtain ⟨k1, k2, k3, k4, k5⟩ := hc; (try go_simp); (try with_reducible rfl)
          try simp only [Act.put, List.setIfInBounds_toArray, List.set_cons_zero, List.set_cons_succ]
          refine gs_take (i := 12) (d := (some 87)) (v := ?_) rfl rfl (by kernel_rfl) (fun _ _ _ h => h) (by rfl) (by first | exact hU4 | exact hU3 | exact hU2 | exact hU1 | exact hU0) (fun w' hb' => ?_) ?_
          rotate_left
          · (try go_simp); (try with_reducible rfl)
          try simp only [Act.put, List.setIfInBounds_toArray, List.set_cons_zero, List.set_cons_succ]
          refine gs_run (i := 11) rfl (by kernel_rfl) (by rfl) (fun K hK => ?_)
          go_simp
          refine sy.mono ?_
          rintro e w6 ⟨rfl, sv6, rg6, t6, hsv6⟩
          have hU1 : w6.heap[b]? = wr.heap[b]? ∧ w6.heap[m8]? = some (.cells #[.int .i64 (n : Int), .slice ao3 X.length cap3, .slice a4 m4 c4] 27 (0, 0)) := ⟨(t6.block b lb9 (fun e => by have := rg9.own_ge b e; omega)).trans hU0.1, (t6.block m8 (lt_of_block hU0.2) (rg9.not_own hU0.2)).trans hU0.2⟩
          have ow6 := own_trn rg9 OW9.out t6 HNE9.out
          have HH := has_any base B M n (badOf X) sv6 _ t HWT.out w6 rg6
          unfold St.v at HH
          refine hK _ _ ⟨hU1, ?_⟩
          clear hK K
          try simp only [Act.put, List.setIfInBounds_toArray, List.set_cons_zero, List.set_cons_succ]
          refine gs_take (i := 13) (d := (some 88)) (v := ?_) rfl rfl (by kernel_rfl) (fun _ _ _ h => h) (by rfl) (by first | exact hU4 | exact hU3 | exact hU2 | exact hU1 | exact hU0) (fun w' hb' => ?_) ?_
          rotate_left
          · (try go_simp); (try with_reducible rfl)
          try simp only [Act.put, List.setIfInBounds_toArray, List.set_cons_zero, List.set_cons_succ]
          refine gs_take (i := 14) (d := (some 89)) (v := ?_) rfl rfl (by kernel_rfl) (fun _ _ _ h => h) (by rfl) (by first | exact hU4 | exact hU3 | exact hU2 | exact hU1 | exact hU0) (fun w' hb' => ?_) ?_
          rotate_left
          · (try go_simp); (try with_reducible rfl)
          try simp only [Act.put, List.setIfInBounds_toArray, List.set_cons_zero, List.set_cons_succ]
          refine gs_take (i := 15) (d := (some 90)) (v := ?_) rfl rfl (by kernel_rfl) (fun _ _ _ h => h) (by rfl) (by first | exact hU4 | exact hU3 | exact hU2 | exact hU1 | exact hU0) (fun w' hb' => ?_) ?_
          rotate_left
          · (try go_simp); (try with_reducible rfl)
          try simp only [Act.put, List.setIfInBounds_toArray, List.set_cons_zero, List.set_cons_succ]
          refine gs_take (i := 16) (d := (some 91)) (v := ?_) rfl rfl (by kernel_rfl) (fun _ _ _ h => h) (by rfl) (by first | exact hU4 | exact hU3 | exact hU2 | exact hU1 | exact hU0) (fun w' hb' => ?_) ?_
          rotate_left
          · (try go_simp); (try with_reducible rfl)
          try simp only [Act.put, List.setIfInBounds_toArray, List.set_cons_zero, List.set_cons_succ]
          refine gs_take (i := 17) (d := (some 92)) (v := ?_) rfl rfl (by kernel_rfl) (fun _ _ _ h => h) (by rfl) (by first | exact hU4 | exact hU3 | exact hU2 | exact hU1 | exact hU0) (fun w' hb' => ?_) ?_
          rotate_left
          · (try go_simp); (try with_reducible rfl)
          try simp only [Act.put, List.setIfInBounds_toArray, List.set_cons_zero, List.set_cons_succ]
          refine gs_take (i := 18) (d := (some 93)) (v := ?_) rfl rfl (by kernel_rfl) (fun _ _ _ h => h) (by rfl) (by first | exact hU4 | exact hU3 | exact hU2 | exact hU1 | exact hU0) (fun w' hb' => ?_) ?_
          rotate_left
          · (try go_simp); (try with_reducible rfl)
          try simp only [Act.put, List.setIfInBounds_toArray, List.set_cons_zero, List.set_cons_succ]
          refine gs_take (i := 19) (d := (some 94)) (v := ?_) rfl rfl (by kernel_rfl) (fun _ _ _ h => h) (by rfl) (by first | exact hU4 | exact hU3 | exact hU2 | exact hU1 | exact hU0) (fun w' hb' => ?_) ?_
          rotate_left
          · (try go_simp); (try with_reducible rfl)
          try simp only [Act.put, List.setIfInBounds_toArray, List.set_cons_zero, List.set_cons_succ]
          refine gs_take (i := 20) (d := (some 95)) (v := ?_) rfl rfl (by kernel_rfl) (fun _ _ _ h => h) (by rfl) (by first | exact hU4 | exact hU3 | exact hU2 | exact hU1 | exact hU0) (fun w' hb' => ?_) ?_
          rotate_left
          · have hc := (AC.out _ hb'.1).2; obtain ⟨k1, k2, k3, k4, k5⟩ := hc; (try go_simp); (try with_reducible rfl)
          try simp only [Act.put, List.setIfInBounds_toArray, List.set_cons_zero, List.set_cons_succ]
          refine gs_take (i := 22) (d := (some 97)) (v := ?_) rfl rfl (by kernel_rfl) (fun _ _ _ h => h) (by rfl) (by first | exact hU4 | exact hU3 | exact hU2 | exact hU1 | exact hU0) (fun w' hb' => ?_) ?_
          rotate_left
          · have hc := cells3 hb'.2; (try go_simp); (try with_reducible rfl)
          try simp only [Act.put, List.setIfInBounds_toArray, List.set_cons_zero, List.set_cons_succ]
          refine gs_take (i := 23) (d := (some 98)) (v := ?_) rfl rfl (by kernel_rfl) (fun _ _ _ h => h) (by rfl) (by first | exact hU4 | exact hU3 | exact hU2 | exact hU1 | exact hU0) (fun w' hb' => ?_) ?_
          rotate_left
          · (try go_simp); (try with_reducible rfl)
          try simp only [Act.put, List.setIfInBounds_toArray, List.set_cons_zero, List.set_cons_succ]
          refine gs_take (i := 24) (d := (some 99)) (v := ?_) rfl rfl (by kernel_rfl) (fun _ _ _ h => h) (by rfl) (by first | exact hU4 | exact hU3 | exact hU2 | exact hU1 | exact hU0) (fun w' hb' => ?_) ?_
          rotate_left
          · (try go_simp); (try with_reducible rfl)
          try simp only [Act.put, List.setIfInBounds_toArray, List.set_cons_zero, List.set_cons_succ]
          refine gs_take (i := 25) (d := (some 100)) (v := ?_) rfl rfl (by kernel_rfl) (fun _ _ _ h => h) (by rfl) (by first | exact hU4 | exact hU3 | exact hU2 | exact hU1 | exact hU0) (fun w' hb' => ?_) ?_
          rotate_left
          · (try go_simp); (try with_reducible rfl)
          try simp only [Act.put, List.setIfInBounds_toArray, List.set_cons_zero, List.set_cons_succ]
          refine gs_take (i := 26) (d := (some 101)) (v := ?_) rfl rfl (by kernel_rfl) (fun _ _ _ h => h) (by rfl) (by first | exact hU4 | exact hU3 | exact hU2 | exact hU1 | exact hU0) (fun w' hb' => ?_) ?_
          rotate_left
          · (try go_simp); (try with_reducible rfl)
          try simp only [Act.put, List.setIfInBounds_toArray, List.set_cons_zero, List.set_cons_succ]
          refine gs_take (i := 27) (d := (some 102)) (v := ?_) rfl rfl (by kernel_rfl) (fun _ _ _ h => h) (by rfl) (by first | exact hU4 | exact hU3 | exact hU2 | exact hU1 | exact hU0) (fun w' hb' => ?_) ?_
          rotate_left
          · have hc := (AC.out _ hb'.1).2; obtain ⟨k1, k2, k3, k4, k5⟩ := hc; (try go_simp); (try with_reducible rfl)
          try simp only [Act.put, List.setIfInBounds_toArray, List.set_cons_zero, List.set_cons_succ]
          refine gs_run (i := 21) rfl (by kernel_rfl) (by rfl) (fun K hK => ?_)
          go_simp
          refine HH.mono ?_
          rintro e w7 ⟨rfl, g7⟩
          have hU2 : w7.heap[b]? = wr.heap[b]? ∧ w7.heap[m8]? = some (.cells #[.int .i64 (n : Int), .slice ao3 X.length cap3, .slice a4 m4 c4] 27 (0, 0)) := ⟨(g7.block b (Nat.lt_of_lt_of_le lb9 t6.size)).trans hU1.1, (g7.block _ (lt_of_block hU1.2)).trans hU1.2⟩
          have ow7 := own_below ow6 g7
          have RH := refHas_any (n : Int) (.slice ao3 X.length cap3) (.slice a4 m4 c4) _ (by have := hL2l.out; omega) t w7 ⟨_, _, _, rfl⟩ (own_rds ow7 rg6.wf (by have := hL2l.out; omega))
          unfold St.v at RH
          refine hK _ _ ⟨hU2, ?_⟩
          clear hK K
          try simp only [Act.put, List.setIfInBounds_toArray, List.set_cons_zero, List.set_cons_succ]
          refine gs_run (i := 28) rfl (by kernel_rfl) (by rfl) (fun K hK => ?_)
          go_simp
          refine RH.mono ?_
          rintro e w8 ⟨rfl, g8⟩
          have hU3 : w8.heap[b]? = wr.heap[b]? ∧ w8.heap[m8]? = some (.cells #[.int .i64 (n : Int), .slice ao3 X.length cap3, .slice a4 m4 c4] 27 (0, 0)) := ⟨(g8.block b (Nat.lt_of_lt_of_le lb9 (Nat.le_trans t6.size g7.size))).trans hU2.1, (g8.block _ (lt_of_block hU2.2)).trans hU2.2⟩
          have BD := bad_any base B M n (badOf X) sv6 _ sp w8 ((rg6.below g7).below g8)
          rw [badB_eq HMAY.out] at BD
          refine hK _ _ ⟨hU3, ?_⟩
          clear hK K
          try simp only [Act.put, List.setIfInBounds_toArray, List.set_cons_zero, List.set_cons_succ]
          refine gs_take (i := 29) (d := (some 104)) (v := ?_) rfl rfl (by kernel_rfl) (fun _ _ _ h => h) (by rfl) (by first | exact hU4 | exact hU3 | exact hU2 | exact hU1 | exact hU0) (fun w' hb' => ?_) ?_
          rotate_left
          · (try go_simp); (try with_reducible rfl)
          try simp only [Act.put, List.setIfInBounds_toArray, List.set_cons_zero, List.set_cons_succ]
          refine gs_take (i := 30) (d := (some 105)) (v := ?_) rfl rfl (by kernel_rfl) (fun _ _ _ h => h) (by rfl) (by first | exact hU4 | exact hU3 | exact hU2 | exact hU1 | exact hU0) (fun w' hb' => ?_) ?_
          rotate_left
          · (try go_simp); (try with_reducible rfl)
          try simp only [Act.put, List.setIfInBounds_toArray, List.set_cons_zero, List.set_cons_succ]
          refine gs_take (i := 31) (d := (some 106)) (v := ?_) rfl rfl (by kernel_rfl) (fun _ _ _ h => h) (by rfl) (by first | exact hU4 | exact hU3 | exact hU2 | exact hU1 | exact hU0) (fun w' hb' => ?_) ?_
          rotate_left
          · (try go_simp); (try with_reducible rfl)
          try simp only [Act.put, List.setIfInBounds_toArray, List.set_cons_zero, List.set_cons_succ]
          refine gs_take (i := 32) (d := (some 107)) (v := ?_) rfl rfl (by kernel_rfl) (fun _ _ _ h => h) (by rfl) (by first | exact hU4 | exact hU3 | exact hU2 | exact hU1 | exact hU0) (fun w' hb' => ?_) ?_
          rotate_left
          · (try go_simp); (try with_reducible rfl)
          try simp only [Act.put, List.setIfInBounds_toArray, List.set_cons_zero, List.set_cons_succ]
          refine gs_take (i := 33) (d := (some 108)) (v := ?_) rfl rfl (by kernel_rfl) (fun _ _ _ h => h) (by rfl) (by first | exact hU4 | exact hU3 | exact hU2 | exact hU1 | exact hU0) (fun w' hb' => ?_) ?_
          rotate_left
          · (try go_simp); (try with_reducible rfl)
          try simp only [Act.put, List.setIfInBounds_toArray, List.set_cons_zero, List.set_cons_succ]
          refine gs_take (i := 34) (d := (some 109)) (v := ?_) rfl rfl (by kernel_rfl) (fun _ _ _ h => h) (by rfl) (by first | exact hU4 | exact hU3 | exact hU2 | exact hU1 | exact hU0) (fun w' hb' => ?_) ?_
          rotate_left
          · (try go_simp); (try with_reducible rfl)
          try simp only [Act.put, List.setIfInBounds_toArray, List.set_cons_zero, List.set_cons_succ]
          refine gs_take (i := 35) (d := (some 110)) (v := ?_) rfl rfl (by kernel_rfl) (fun _ _ _ h => h) (by rfl) (by first | exact hU4 | exact hU3 | exact hU2 | exact hU1 | exact hU0) (fun w' hb' => ?_) ?_
          rotate_left
          · (try go_simp); (try with_reducible rfl)
          try simp only [Act.put, List.setIfInBounds_toArray, List.set_cons_zero, List.set_cons_succ]
          refine gs_take (i := 36) (d := (some 111)) (v := ?_) rfl rfl (by kernel_rfl) (fun _ _ _ h => h) (by rfl) (by first | exact hU4 | exact hU3 | exact hU2 | exact hU1 | exact hU0) (fun w' hb' => ?_) ?_
          rotate_left
          · (try go_simp); (try with_reducible rfl)
          try simp only [Act.put, List.setIfInBounds_toArray, List.set_cons_zero, List.set_cons_succ]
          refine gs_take (i := 37) (d := (some 112)) (v := ?_) rfl rfl (by kernel_rfl) (fun _ _ _ h => h) (by rfl) (by first | exact hU4 | exact hU3 | exact hU2 | exact hU1 | exact hU0) (fun w' hb' => ?_) ?_
          rotate_left
          · have hc := (AC.out _ hb'.1).1; (try go_simp); (try with_reducible rfl)
          try simp only [Act.put, List.setIfInBounds_toArray, List.set_cons_zero, List.set_cons_succ]
          refine gs_take (i := 39) (d := (some 114)) (v := ?_) rfl rfl (by kernel_rfl) (fun _ _ _ h => h) (by rfl) (by first | exact hU4 | exact hU3 | exact hU2 | exact hU1 | exact hU0) (fun w' hb' => ?_) ?_
          rotate_left
          · have hc := cells3 hb'.2; (try go_simp); (try with_reducible rfl)
          try simp only [Act.put, List.setIfInBounds_toArray, List.set_cons_zero, List.set_cons_succ]
          refine gs_take (i := 40) (d := (some 115)) (v := ?_) rfl rfl (by kernel_rfl) (fun _ _ _ h => h) (by rfl) (by first | exact hU4 | exact hU3 | exact hU2 | exact hU1 | exact hU0) (fun w' hb' => ?_) ?_
          rotate_left
          · (try go_simp); (try with_reducible rfl)
          try simp only [Act.put, List.setIfInBounds_toArray, List.set_cons_zero, List.set_cons_succ]
          refine gs_take (i := 41) (d := (some 116)) (v := ?_) rfl rfl (by kernel_rfl) (fun _ _ _ h => h) (by rfl) (by first | exact hU4 | exact hU3 | exact hU2 | exact hU1 | exact hU0) (fun w' hb' => ?_) ?_
          rotate_left
          · (try go_simp); (try with_reducible rfl)
          try simp only [Act.put, List.setIfInBounds_toArray, List.set_cons_zero, List.set_cons_succ]
          refine gs_take (i := 42) (d := (some 117)) (v := ?_) rfl rfl (by kernel_rfl) (fun _ _ _ h => h) (by rfl) (by first | exact hU4 | exact hU3 | exact hU2 | exact hU1 | exact hU0) (fun w' hb' => ?_) ?_
          rotate_left
          · (try go_simp); (try with_reducible rfl)
          try simp only [Act.put, List.setIfInBounds_toArray, List.set_cons_zero, List.set_cons_succ]
          refine gs_take (i := 43) (d := (some 118)) (v := ?_) rfl rfl (by kernel_rfl) (fun _ _ _ h => h) (by rfl) (by first | exact hU4 | exact hU3 | exact hU2 | exact hU1 | exact hU0) (fun w' hb' => ?_) ?_
          rotate_left
          · (try go_simp); (try with_reducible rfl)
          try simp only [Act.put, List.setIfInBounds_toArray, List.set_cons_zero, List.set_cons_succ]
          refine gs_take (i := 44) (d := (some 119)) (v := ?_) rfl rfl (by kernel_rfl) (fun _ _ _ h => h) (by rfl) (by first | exact hU4 | exact hU3 | exact hU2 | exact hU1 | exact hU0) (fun w' hb' => ?_) ?_
          rotate_left
          · have hc := (AC.out _ hb'.1).1; (try go_simp); (try with_reducible rfl)
          try simp only [Act.put, List.setIfInBounds_toArray, List.set_cons_zero, List.set_cons_succ]
          refine gs_run (i := 38) rfl (by kernel_rfl) (by rfl) (fun K hK => ?_)
          go_simp
          refine BD.mono ?_
          rintro e w88 ⟨rfl, rfl⟩
          have RB := refBad_any (n : Int) (.slice ao3 X.length cap3) (.slice a4 m4 c4) X (by omega) sp w8 (RVX.out _ (chain (chain (below_trn BEL9.out t6 OWN9.out) g7) g8)) ⟨_, _, _, rfl⟩
          refine hK _ _ ⟨hU3, ?_⟩
          clear hK K
          try simp only [Act.put, List.setIfInBounds_toArray, List.set_cons_zero, List.set_cons_succ]
          refine gs_run (i := 45) rfl (by kernel_rfl) (by rfl) (fun K hK => ?_)
          go_simp
          refine RB.mono ?_
          rintro e w9 ⟨rfl, g9⟩
          have hU4 : w9.heap[b]? = wr.heap[b]? ∧ w9.heap[m8]? = some (.cells #[.int .i64 (n : Int), .slice ao3 X.length cap3, .slice a4 m4 c4] 27 (0, 0)) := ⟨(g9.block b (Nat.lt_of_lt_of_le lb9 (Nat.le_trans t6.size (Nat.le_trans g7.size g8.size)))).trans hU3.1, (g9.block _ (lt_of_block hU3.2)).trans hU3.2⟩
          refine hK _ _ ⟨hU4, ?_⟩
          clear hK K
          try simp only [Act.put, List.setIfInBounds_toArray, List.set_cons_zero, List.set_cons_succ]
          refine gs_take (i := 46) (d := (some 121)) (v := ?_) rfl rfl (by kernel_rfl) (fun _ _ _ h => h) (by rfl) (by first | exact hU4 | exact hU3 | exact hU2 | exact hU1 | exact hU0) (fun w' hb' => ?_) ?_
          rotate_left
          · (try go_simp); (try with_reducible rfl)
          try simp only [Act.put, List.setIfInBounds_toArray, List.set_cons_zero, List.set_cons_succ]
          refine gs_take (i := 47) (d := (some 122)) (v := ?_) rfl rfl (by kernel_rfl) (fun _ _ _ h => h) (by rfl) (by first | exact hU4 | exact hU3 | exact hU2 | exact hU1 | exact hU0) (fun w' hb' => ?_) ?_
          rotate_left
          · (try go_simp); (try with_reducible rfl)
          try simp only [Act.put, List.setIfInBounds_toArray, List.set_cons_zero, List.set_cons_succ]
          refine gs_done (by kernel_rfl) ?_
          have bel10 : Below W.heap.size W w9 := chain (chain (chain (below_trn BEL9.out t6 OWN9.out) g7) g8) g9
          have rg10 := ((rg6.below g7).below g8).below g9
          have ow10 := own_below (own_below ow7 g8) g9
          have hne10 : ∀ k, (Value.slice a4 m4 c4).ownBlock = some k → sv6.ownBlock ≠ some k := by
            intro k hk e
            rcases hsv6 k e with e2 | e2
            · exact HNE9.out k hk e2
            · have := (OW9.out.lt k hk).2; omega
          have hb10 : base ≤ w9.heap.size := Nat.le_trans hbs (Nat.le_trans sz9 (Nat.le_trans t6.size (Nat.le_trans g7.size (Nat.le_trans g8.size g9.size))))
          rw [← HREC.out] at rg10 ow10
          have RG10 := Lib.hid rg10
          have OW10 := Lib.hid ow10
          have HNE10 := Lib.hid hne10
          have q10 := hU4.2
          clear rg10 ow10 hne10 rg6 t6 hsv6 rg9 sy HH RH BD RB ow6 ow7
          go_wp2_with fail
          go_roundw
          case rel => exact ⟨j + 1, by omega, by go_num, bel10, hb10, sv6, _, RG10.out, q10, OW10.out, HNE10.out⟩
          case measure => simp [intOf]; omega
      · have AL := all_any base B M n (badOf X) sv L wr rg
        have hwfL := rg.wf
        clear hL hne ow
        go_wp2_with fail
        refine AL.mono ?_
        rintro e wa ⟨ga, z, rfl, oz⟩
        obtain ⟨az, cz, rfl⟩ := own_slice' oz
        have q9 := (ga.block _ (lt_of_block q8)).trans q8
        have bel2 := chain bel ga
        have rz := own_rds oz hwfL (by omega)
        have rm := own_rds (own_below HOW.out ga) hwfL (by omega)
        have rg2 := rg.below ga
        have C2 := Lib.hid (fun (w' : World) (hb' : Below wa.drew.heap.size wa.drew w') => (cells3 ((hb'.block _ (lt_of_block q9)).trans q9)).2.2)
        have CN := Lib.hid (fun (w' : World) (hb' : Below wa.drew.heap.size wa.drew w') => count_any base B M n (badOf X) sv L w' (rg2.below (chain (Below.refl _ _).drew hb')))
        have hll := int_eqn (rfl : (L.length : Int) = L.length)
        obtain ⟨_, _, hz1, _, _, _, HZ⟩ := rz
        cases hz1
        obtain ⟨_, _, hm1, _, _, _, HM⟩ := rm
        cases hm1
        clear AL oz rg rg2 hwfL
        go_wp2_with fail
        refine g_start (by kernel_rfl) ?_
        refine g_take (i := 0) (d := (some 125)) (v := ?_) rfl rfl (by kernel_rfl) (fun _ _ _ h => h) (by rfl) (fun w' hb' => ?_) ?_
        rotate_left
        · (try go_simp); (try with_reducible rfl)
        try simp only [Act.put, List.setIfInBounds_toArray, List.set_cons_zero, List.set_cons_succ]
        refine g_take (i := 1) (d := (some 126)) (v := ?_) rfl rfl (by kernel_rfl) (fun _ _ _ h => h) (by rfl) (fun w' hb' => ?_) ?_
        rotate_left
        · (try go_simp); (try with_reducible rfl)
        try simp only [Act.put, List.setIfInBounds_toArray, List.set_cons_zero, List.set_cons_succ]
        refine g_take (i := 2) (d := (some 127)) (v := ?_) rfl rfl (by kernel_rfl) (fun _ _ _ h => h) (by rfl) (fun w' hb' => ?_) ?_
        rotate_left
        · (try go_simp); (try with_reducible rfl)
        try simp only [Act.put, List.setIfInBounds_toArray, List.set_cons_zero, List.set_cons_succ]
        refine g_take (i := 3) (d := (some 128)) (v := ?_) rfl rfl (by kernel_rfl) (fun _ _ _ h => h) (by rfl) (fun w' hb' => ?_) ?_
        rotate_left
        · have hc := C2.out _ hb'; (try go_simp); (try with_reducible rfl)
        try simp only [Act.put, List.setIfInBounds_toArray, List.set_cons_zero, List.set_cons_succ]
        refine g_take (i := 4) (d := (some 129)) (v := ?_) rfl rfl (by kernel_rfl) (fun _ _ _ h => h) (by rfl) (fun w' hb' => ?_) ?_
        rotate_left
        · (try go_simp); (try with_reducible rfl)
        try simp only [Act.put, List.setIfInBounds_toArray, List.set_cons_zero, List.set_cons_succ]
        refine g_take (i := 5) (d := (some 130)) (v := ?_) rfl rfl (by kernel_rfl) (fun _ _ _ h => h) (by rfl) (fun w' hb' => ?_) ?_
        rotate_left
        · (try go_simp); (try with_reducible rfl)
        try simp only [Act.put, List.setIfInBounds_toArray, List.set_cons_zero, List.set_cons_succ]
        refine g_take (i := 6) (d := (some 131)) (v := ?_) rfl rfl (by kernel_rfl) (fun _ _ _ h => h) (by rfl) (fun w' hb' => ?_) ?_
        rotate_left
        · (try go_simp); (try with_reducible rfl)
        try simp only [Act.put, List.setIfInBounds_toArray, List.set_cons_zero, List.set_cons_succ]
        refine g_take (i := 7) (d := (some 132)) (v := ?_) rfl rfl (by kernel_rfl) (fun _ _ _ h => h) (by rfl) (fun w' hb' => ?_) ?_
        rotate_left
        · (try go_simp); (try with_reducible rfl)
        try simp only [Act.put, List.setIfInBounds_toArray, List.set_cons_zero, List.set_cons_succ]
        refine g_take (i := 9) (d := (some 134)) (v := ?_) rfl rfl (by kernel_rfl) (fun _ _ _ h => h) (by rfl) (fun w' hb' => ?_) ?_
        rotate_left
        · (try go_simp); (try with_reducible rfl)
        try simp only [Act.put, List.setIfInBounds_toArray, List.set_cons_zero, List.set_cons_succ]
        refine g_take (i := 10) (d := (some 135)) (v := ?_) rfl rfl (by kernel_rfl) (fun _ _ _ h => h) (by rfl) (fun w' hb' => ?_) ?_
        rotate_left
        · have hc := C2.out _ hb'; (try go_simp); (try with_reducible rfl)
        try simp only [Act.put, List.setIfInBounds_toArray, List.set_cons_zero, List.set_cons_succ]
        refine g_take (i := 11) (d := (some 136)) (v := ?_) rfl rfl (by kernel_rfl) (fun _ _ _ h => h) (by rfl) (fun w' hb' => ?_) ?_
        rotate_left
        · (try go_simp); (try with_reducible rfl)
        try simp only [Act.put, List.setIfInBounds_toArray, List.set_cons_zero, List.set_cons_succ]
        refine g_run (i := 8) rfl (by kernel_rfl) (by rfl) (fun K hK => ?_)
        go_simp
        refine (CN.out _ (Below.refl _ _)).mono ?_
        rintro e wc ⟨rfl, rfl⟩
        refine hK _ _ ⟨Below.refl _ _, ?_⟩
        clear hK K
        try simp only [Act.put, List.setIfInBounds_toArray, List.set_cons_zero, List.set_cons_succ]
        refine g_take (i := 12) (d := (some 137)) (v := ?_) rfl rfl (by kernel_rfl) (fun _ _ _ h => h) (by rfl) (fun w' hb' => ?_) ?_
        rotate_left
        · (try go_simp); (try with_reducible rfl)
        try simp only [Act.put, List.setIfInBounds_toArray, List.set_cons_zero, List.set_cons_succ]
        refine g_take (i := 13) (d := (some 138)) (v := ?_) rfl rfl (by kernel_rfl) (fun _ _ _ h => h) (by rfl) (fun w' hb' => ?_) ?_
        rotate_left
        · (try go_simp); (try with_reducible rfl)
        try simp only [Act.put, List.setIfInBounds_toArray, List.set_cons_zero, List.set_cons_succ]
        refine g_done (by kernel_rfl) ?_
        go_wp2_with fail
        go_loopw [16] (fun i wx => ∃ q : Nat, q ≤ L.length ∧ i = .int .i64 (q : Int) ∧ Below wa.heap.size wa wx) (fun i _ => 200 - (intOf i).toNat)
        case atStart => exact ⟨0, Nat.zero_le _, rfl, (Below.refl _ _).drew⟩
        case round =>
          obtain ⟨q, hq, rfl, gx⟩ := hrel
          by_cases hqx : q < L.length
          · obtain ⟨bz, fz, rfl, hbz, hzc⟩ := HZ.out (by omega)
            obtain ⟨bm, fm, rfl, hbm, hmc⟩ := HM.out (by omega)
            have e1 := hzc q hqx
            have e2 := hmc q hqx
            obtain ⟨t, ht⟩ : ∃ t, t = L[q] := ⟨_, rfl⟩
            rw [← ht] at e1 e2
            have x9 := (gx.block _ (lt_of_block q9)).trans q9
            have A1 := Lib.hid (fun (w' : World) (hb' : Below wr.drew.heap.size wr.drew w') => e1.of ((hb'.block bz (Nat.lt_of_lt_of_le hbz gx.size)).trans (gx.block bz hbz)))
            have A2 := Lib.hid (fun (w' : World) (hb' : Below wr.drew.heap.size wr.drew w') => e2.of ((hb'.block bm (Nat.lt_of_lt_of_le hbm gx.size)).trans (gx.block bm hbm)))
            have C3 := Lib.hid (fun (w' : World) (hb' : Below wr.drew.heap.size wr.drew w') => (cells3 ((hb'.block _ (lt_of_block x9)).trans x9)).2.2)
            have hE := ne_st t t
            rw [show (!decide (t = t)) = false from by simp] at hE
            clear ht e1 e2 hzc hmc
            go_wp2_with fail
            refine g_start (by kernel_rfl) ?_
            refine g_take (i := 0) (d := (some 145)) (v := ?_) rfl rfl (by kernel_rfl) (fun _ _ _ h => h) (by rfl) (fun w' hb' => ?_) ?_
            rotate_left
            · (try go_simp); (try with_reducible rfl)
            try simp only [Act.put, List.setIfInBounds_toArray, List.set_cons_zero, List.set_cons_succ]
            refine g_take (i := 1) (d := (some 146)) (v := ?_) rfl rfl (by kernel_rfl) (fun _ _ _ h => h) (by rfl) (fun w' hb' => ?_) ?_
            rotate_left
            · (try go_simp); (try with_reducible rfl)
            try simp only [Act.put, List.setIfInBounds_toArray, List.set_cons_zero, List.set_cons_succ]
            refine g_take (i := 2) (d := (some 147)) (v := ?_) rfl rfl (by kernel_rfl) (fun _ _ _ h => h) (by rfl) (fun w' hb' => ?_) ?_
            rotate_left
            · (try go_simp); (try with_reducible rfl)
            try simp only [Act.put, List.setIfInBounds_toArray, List.set_cons_zero, List.set_cons_succ]
            refine g_take (i := 3) (d := (some 148)) (v := ?_) rfl rfl (by kernel_rfl) (fun _ _ _ h => h) (by rfl) (fun w' hb' => ?_) ?_
            rotate_left
            · have hc := A1.out _ hb'; obtain ⟨k1, k2, k3, k4, k5⟩ := hc; (try go_simp); (try with_reducible rfl)
            try simp only [Act.put, List.setIfInBounds_toArray, List.set_cons_zero, List.set_cons_succ]
            refine g_take (i := 4) (d := (some 149)) (v := ?_) rfl rfl (by kernel_rfl) (fun _ _ _ h => h) (by rfl) (fun w' hb' => ?_) ?_
            rotate_left
            · (try go_simp); (try with_reducible rfl)
            try simp only [Act.put, List.setIfInBounds_toArray, List.set_cons_zero, List.set_cons_succ]
            refine g_take (i := 5) (d := (some 150)) (v := ?_) rfl rfl (by kernel_rfl) (fun _ _ _ h => h) (by rfl) (fun w' hb' => ?_) ?_
            rotate_left
            · have hc := C3.out _ hb'; (try go_simp); (try with_reducible rfl)
            try simp only [Act.put, List.setIfInBounds_toArray, List.set_cons_zero, List.set_cons_succ]
            refine g_take (i := 6) (d := (some 151)) (v := ?_) rfl rfl (by kernel_rfl) (fun _ _ _ h => h) (by rfl) (fun w' hb' => ?_) ?_
            rotate_left
            · (try go_simp); (try with_reducible rfl)
            try simp only [Act.put, List.setIfInBounds_toArray, List.set_cons_zero, List.set_cons_succ]
            refine g_take (i := 7) (d := (some 152)) (v := ?_) rfl rfl (by kernel_rfl) (fun _ _ _ h => h) (by rfl) (fun w' hb' => ?_) ?_
            rotate_left
            · (try go_simp); (try with_reducible rfl)
            try simp only [Act.put, List.setIfInBounds_toArray, List.set_cons_zero, List.set_cons_succ]
            refine g_take (i := 8) (d := (some 153)) (v := ?_) rfl rfl (by kernel_rfl) (fun _ _ _ h => h) (by rfl) (fun w' hb' => ?_) ?_
            rotate_left
            · have hc := A2.out _ hb'; obtain ⟨k1, k2, k3, k4, k5⟩ := hc; (try go_simp); (try with_reducible rfl)
            try simp only [Act.put, List.setIfInBounds_toArray, List.set_cons_zero, List.set_cons_succ]
            refine g_take (i := 9) (d := (some 154)) (v := ?_) rfl rfl (by kernel_rfl) (fun _ _ _ h => h) (by rfl) (fun w' hb' => ?_) ?_
            rotate_left
            · (try go_simp); (try with_reducible rfl)
            try simp only [Act.put, List.setIfInBounds_toArray, List.set_cons_zero, List.set_cons_succ]
            refine g_done (by kernel_rfl) ?_
            go_wp2_with fail
            go_roundw
            case rel => exact ⟨q + 1, by omega, by go_num, gx.drew⟩
            case measure => simp [intOf]; omega
          · go_wp2_with (go_at_call 9; refine (AW.out _).mono ?_; rintro e w3 ⟨rfl, g3⟩)
            go_ret
            exact ⟨rfl, chain (chain (chain Be bel2) gx) g3⟩
end Go.Proofs.Ytojjpnkdblaidaa
