/- Span: the law SpanScans. Written by wip/tools/gen11p.py. -/
import Derived.Test.YtmjedjhkhjiigaaDoorQSSC46
import Derived.Test.YtmjedjhkhjiigaaDoorQSSC47
import Derived.Test.YtmjedjhkhjiigaaDoorQSSC25
namespace Go.Proofs.YtmjedjhkhjiigaaDoor
open Go Go.RowKit
set_option linter.unusedVariables false
set_option linter.unusedSimpArgs false
theorem take_len' {α : Type} (n : Nat) (l : List α) : (l.take n).length ≤ l.length := by rw [List.length_take]; exact Nat.min_le_right _ _
set_option maxRecDepth 100000 in
set_option maxHeartbeats 2000000 in
theorem scans_row11 (CO cs : Array Value) (lv : Nat → List It) (vs : Nat → Int) (f t : List UInt8) (m : Int) (w : World) (hA : RdA w CO cs lv vs f t m) (tab : TabAt w) :
    Calls Tryd.prog 7 #[.agg CO] w fun e w' => e = .returned (.bool true) ∧ Below w.heap.size w w' := by
  obtain ⟨h, hsz, hsub, h32, h33, h34, hf, ht⟩ := hA
  have TAB := Lib.hid tab
  have hs0 := infoTc h.size
  have z0 := zeroT_run
  have z1 := zT_ne
  obtain ⟨fs, hfs⟩ : ∃ k, k = f.take 60 := ⟨_, rfl⟩
  obtain ⟨ts, hts⟩ : ∃ k, k = t.take 60 := ⟨_, rfl⟩
  have SF0 := fun W => short11_any f W hf
  have ST0 := fun W => short11_any t W ht
  have ff : fs.length ≤ maxLen := by rw [hfs]; exact Nat.le_trans (List.length_take_le _ _) (by decide)
  have tt : ts.length ≤ maxLen := by rw [hts]; exact Nat.le_trans (List.length_take_le _ _) (by decide)
  rw [← hfs] at SF0
  rw [← hts] at ST0
  have SF := Lib.hid SF0
  have ST := Lib.hid ST0
  obtain ⟨lF, hlF⟩ : ∃ lF, lF = fun b => fewL (lv b) := ⟨_, rfl⟩
  have szF : SzT lF := by rw [hlF]; exact fewT_sz lv
  have lenF : ∀ b, b < 16 → (lF b).length ≤ 100 := by rw [hlF]; exact fewT_len lv
  have q1 := heap_alloc_new w (.cells CO 63)
  have bel := (Below.refl w.heap.size w).alloc (Nat.le_refl _) (.cells CO 63)
  obtain ⟨W0, hW0⟩ : ∃ W, W = w.alloc (.cells CO 63) := ⟨_, rfl⟩
  rw [← hW0] at q1 bel
  have Q1 := Lib.hid q1
  have PT := Lib.hid (show ∀ W, Below W0.heap.size W0 W → W.rangeAt w.heap.size 0 cs.toList from fun W g => part_at ((g.block _ (lt_of_block Q1.out)).trans Q1.out) (fun j hj => hsub j (by rw [h.size] at hj; exact hj)))
  have C32 := Lib.hid (show ∀ W, Below W0.heap.size W0 W → W.cell? ⟨w.heap.size, 32, none⟩ = some (.string (str f)) from fun W g => (block_cell ((g.block _ (lt_of_block Q1.out)).trans Q1.out) 32).trans h32)
  have C33 := Lib.hid (show ∀ W, Below W0.heap.size W0 W → W.cell? ⟨w.heap.size, 33, none⟩ = some (.string (str t)) from fun W g => (block_cell ((g.block _ (lt_of_block Q1.out)).trans Q1.out) 33).trans h33)
  have C34 := Lib.hid (show ∀ W, Below W0.heap.size W0 W → W.cell? ⟨w.heap.size, 34, none⟩ = some (.int .i64 m) from fun W g => (block_cell ((g.block _ (lt_of_block Q1.out)).trans Q1.out) 34).trans h34)
  have FW0 := fun W (g : Below W0.heap.size W0 W) => few10_any cs lv vs W ((h.below bel (Nat.le_refl _)).below g (Nat.le_refl _)) hsz
  unfold FewP at FW0
  rw [← hlF] at FW0
  have FW := Lib.hid FW0
  have BEL := Lib.hid bel
  clear h hsz tab hsub h32 h33 h34 hlF FW0 q1 bel SF0 ST0 hfs hts hf ht
  go_enter Tryd.func7, Tryd.ntmps7
  go_wp2_with fail
  rw [← hW0]
  clear hW0
  have hS := Below.drew (Below.refl W0.heap.size W0)
  refine gs_start (S := (fun w' => Below W0.heap.size W0 w')) (by kernel_rfl) ?_
  refine gs_take (i := 0) (d := (some 14)) (v := ?_) rfl rfl (by kernel_rfl) (fun _ _ _ h => h) (by rfl) hS (fun w' hb' => ?_) ?_
  rotate_left
  · (try go_simp); (try with_reducible rfl)
  try simp only [Act.put, List.setIfInBounds_toArray, List.set_cons_zero, List.set_cons_succ]
  refine gs_take (i := 1) (d := (some 15)) (v := ?_) rfl rfl (by kernel_rfl) (fun _ _ _ h => h) (by rfl) hS (fun w' hb' => ?_) ?_
  rotate_left
  · (refine load_part_op _ _ (.tmp 14) ?_ ?_ (PT.out _ hb') Tryd.underlying26 ?_ hs0 <;> rfl); (try go_simp); (try with_reducible rfl)
  try simp only [Act.put, List.setIfInBounds_toArray, List.set_cons_zero, List.set_cons_succ]
  refine gs_take (i := 3) (d := (some 17)) (v := ?_) rfl rfl (by kernel_rfl) (fun _ _ _ h => h) (by rfl) hS (fun w' hb' => ?_) ?_
  rotate_left
  · (try go_simp); (try with_reducible rfl)
  try simp only [Act.put, List.setIfInBounds_toArray, List.set_cons_zero, List.set_cons_succ]
  refine gs_take (i := 4) (d := (some 18)) (v := ?_) rfl rfl (by kernel_rfl) (fun _ _ _ h => h) (by rfl) hS (fun w' hb' => ?_) ?_
  rotate_left
  · have c32 := C32.out _ hb'; (try go_simp); (try with_reducible rfl)
  try simp only [Act.put, List.setIfInBounds_toArray, List.set_cons_zero, List.set_cons_succ]
  refine gs_take (i := 6) (d := (some 20)) (v := ?_) rfl rfl (by kernel_rfl) (fun _ _ _ h => h) (by rfl) hS (fun w' hb' => ?_) ?_
  rotate_left
  · (try go_simp); (try with_reducible rfl)
  try simp only [Act.put, List.setIfInBounds_toArray, List.set_cons_zero, List.set_cons_succ]
  refine gs_take (i := 7) (d := (some 21)) (v := ?_) rfl rfl (by kernel_rfl) (fun _ _ _ h => h) (by rfl) hS (fun w' hb' => ?_) ?_
  rotate_left
  · have c33 := C33.out _ hb'; (try go_simp); (try with_reducible rfl)
  try simp only [Act.put, List.setIfInBounds_toArray, List.set_cons_zero, List.set_cons_succ]
  refine gs_run2 (i := 2) (k := 9) rfl rfl (by kernel_rfl) (by rfl) (by rfl) (fun K hK => ?_) (fun K hK => ?_)
  · skip
    go_simp
    refine (FW.out _ hS).mono ?_
    rintro e y1 ⟨CF, rfl, own, g⟩
    have hS := chain hS g
    have hF := Below.refl y1.heap.size y1
    have RF := Lib.hid own.rd
    refine hK _ _ ⟨hS, ?_⟩
    clear hK K g
    try simp only [Act.put, List.setIfInBounds_toArray, List.set_cons_zero, List.set_cons_succ]
    refine gs_run2 (i := 5) (k := 9) rfl rfl (by kernel_rfl) (by rfl) (by rfl) (fun K hK => ?_) (fun K hK => ?_)
    · skip
      go_simp
      refine (SF.out _).mono ?_
      rintro e w' ⟨rfl, rfl⟩
      refine hK _ _ ⟨hS, ?_⟩
      clear hK K
      try simp only [Act.put, List.setIfInBounds_toArray, List.set_cons_zero, List.set_cons_succ]
      refine gs_run2 (i := 8) (k := 9) rfl rfl (by kernel_rfl) (by rfl) (by rfl) (fun K hK => ?_) (fun K hK => ?_)
      · skip
        go_simp
        refine (ST.out _).mono ?_
        rintro e w' ⟨rfl, rfl⟩
        refine hK _ _ ⟨hS, ?_⟩
        clear hK K
        try simp only [Act.put, List.setIfInBounds_toArray, List.set_cons_zero, List.set_cons_succ]
        refine gs_run (i := 9) rfl (by kernel_rfl) (by rfl) (fun K hK => ?_)
        go_simp
        have qz : (World.alloc y1 (.cells zT 26)).heap[y1.heap.size]? = some (.cells zT 26 (0, 0)) := heap_alloc_new y1 (.cells zT 26)
        have GA0 : W0.heap.size ≤ y1.heap.size := hS.size
        have GAF : y1.heap.size ≤ y1.heap.size := hF.size
        have g := (Below.refl y1.heap.size y1).alloc (Nat.le_refl _) (.cells zT 26)
        have hS : Below W0.heap.size W0 (World.alloc y1 (.cells zT 26)) := hS.alloc hS.size (.cells zT 26)
        have own := own.below g
        have hF := chain hF g
        refine hK _ _ ⟨hS, ?_⟩
        clear hK K g
        obtain ⟨y2, hy⟩ : ∃ W, W = World.alloc y1 (.cells zT 26) := ⟨_, rfl⟩
        rw [← hy] at qz hS own hF ⊢
        clear hy
        try simp only [Act.put, List.setIfInBounds_toArray, List.set_cons_zero, List.set_cons_succ]
        refine gs_run (i := 10) rfl (by kernel_rfl) (by rfl) (fun K hK => ?_)
        have hsF := infoTc own.size
        have hzF : zT.size = CF.size := by rw [own.size]; rfl
        have hoF := own.rd.one
        refine wp_store_row 26 (.tmp 3) (.tmp 16) rfl _ CF rfl rfl _ zT qz hsF hzF hoF ?_
        have qn := setRow_heap _ _ _ CF _ _ qz
        have hS := below_row hS GA0 CF
        have hF := below_row hF GAF CF
        refine hK _ _ ⟨hS, ?_⟩
        clear hK K
        obtain ⟨WS, hWS⟩ : ∃ W, W = World.setRow y2 y1.heap.size CF := ⟨_, rfl⟩
        rw [← hWS] at qn hS hF  ⊢
        clear hWS
        have HT := Lib.hid (show RdT WS CF lF vs from RF.out.below hF (Nat.le_refl _))
        have Q3 := Lib.hid qn
        clear qz qn hF own RF hsF hzF hoF GAF
        try simp only [Act.put, List.setIfInBounds_toArray, List.set_cons_zero, List.set_cons_succ]
        refine gs_take (i := 11) (d := (some 4)) (v := ?_) rfl rfl (by kernel_rfl) (fun _ _ _ h => h) (by rfl) hS (fun w' hb' => ?_) ?_
        rotate_left
        · (try go_simp); (try with_reducible rfl)
        try simp only [Act.put, List.setIfInBounds_toArray, List.set_cons_zero, List.set_cons_succ]
        refine gs_take (i := 12) (d := (some 5)) (v := ?_) rfl rfl (by kernel_rfl) (fun _ _ _ h => h) (by rfl) hS (fun w' hb' => ?_) ?_
        rotate_left
        · (try go_simp); (try with_reducible rfl)
        try simp only [Act.put, List.setIfInBounds_toArray, List.set_cons_zero, List.set_cons_succ]
        refine gs_done (by kernel_rfl) ?_
        have GAW : w.heap.size < y1.heap.size := by have := lt_of_block Q1.out; omega
        obtain ⟨ga, hga⟩ : ∃ ga, ga = y1.heap.size := ⟨_, rfl⟩
        rw [← hga] at GAW Q3 ⊢
        clear hga GA0
        have hsF := infoTc HT.out.size
        have BW := Lib.hid (chain BEL.out hS)
        have TS := Lib.hid (TAB.out.below BW.out)
        have C34S := Lib.hid (fun W (g : Below WS.heap.size WS W) => C34.out W (chain hS g))
        have h8 := Below.refl WS.heap.size WS
        clear PT FW C32 C33 C34 SF ST hS z0 z1 hs0
        have SC0 := fun W (g : Below WS.heap.size WS W) => scan_any CF lF vs fs ts m W (TS.out.below g) (HT.out.below g (Nat.le_refl _)) szF ff tt
        have BK0 := fun W (g : Below WS.heap.size WS W) => back_any CF lF vs fs ts m W (TS.out.below g) (HT.out.below g (Nat.le_refl _)) szF ff tt
        have CN0 := fun W (g : Below WS.heap.size WS W) => count11_any CF lF vs fs ts W (TS.out.below g) (HT.out.below g (Nat.le_refl _)) szF ff tt
        have WR0 := fun W (g : Below WS.heap.size WS W) => wrong_any CF lF vs fs ts W (TS.out.below g) (HT.out.below g (Nat.le_refl _)) szF lenF ff tt
        have AW := Lib.hid (fun W (g : Below WS.heap.size WS W) => awake11_any W (TS.out.below g))
        obtain ⟨SL, hSL⟩ : ∃ X, X = scL lF vs fs ts m := ⟨_, rfl⟩
        obtain ⟨BL, hBL⟩ : ∃ X, X = (scL lF vs fs ts 1024).reverse.take m.toNat := ⟨_, rfl⟩
        obtain ⟨nc, hnc⟩ : ∃ z : Int, z = ((scL lF vs fs ts 1024).length : Int) := ⟨_, rfl⟩
        obtain ⟨E, hE⟩ : ∃ X, X = ckE lF vs [fs, ts] := ⟨_, rfl⟩
        obtain ⟨ez, hez⟩ : ∃ z : Int, z = (E : Int) := ⟨_, rfl⟩
        rw [← hSL, ← hE, ← hez] at SC0
        rw [← hBL, ← hE, ← hez] at BK0
        rw [← hnc, ← hE, ← hez] at CN0
        rw [← hE, ← hez] at WR0
        have SC := Lib.hid SC0
        have BK := Lib.hid BK0
        have CN := Lib.hid CN0
        have WR := Lib.hid WR0
        have HSL := Lib.hid hSL
        have HBL := Lib.hid hBL
        have HNC := Lib.hid hnc
        have HE := Lib.hid hE
        have HEZ := Lib.hid hez
        clear SC0 BK0 CN0 WR0 hSL hBL hnc hE hez
        have q3 := Q3.out
        have c34 := C34S.out _ h8
        go_wp2_with ((with_reducible refine wpList_load_row (o := ⟨some 24, _, _, _, _, _⟩) rfl 26 (.tmp 3) rfl _ rfl _ CF (0, 0) _ q3 Tryd.underlying26 rfl hsF ?_))
        refine (SC.out _ h8).mono ?_
        rintro e v1 ⟨vL, rfl, ownL, g⟩
        obtain ⟨aL, kL, rfl, -, -, RL⟩ := RdK.open (OwnI.rd (w := v1) ownL)
        replace h8 := chain h8 g
        replace q3 := (h8.block _ (lt_of_block Q3.out)).trans Q3.out
        replace c34 := C34S.out _ h8
        clear g ownL
        go_wp2_with ((with_reducible refine wpList_load_row (o := ⟨some 33, _, _, _, _, _⟩) rfl 26 (.tmp 3) rfl _ rfl _ CF (0, 0) _ q3 Tryd.underlying26 rfl hsF ?_))
        refine (BK.out _ h8).mono ?_
        rintro e v2 ⟨vB, rfl, ownB, g⟩
        obtain ⟨aB, kB, rfl, -, -, RB⟩ := RdK.open (OwnI.rd (w := v2) ownB)
        replace h8 := chain h8 g
        replace q3 := (h8.block _ (lt_of_block Q3.out)).trans Q3.out
        replace RL := RdK.below RL g (Nat.le_refl _)
        clear g ownB c34
        go_wp2_with ((with_reducible refine wpList_load_row (o := ⟨some 42, _, _, _, _, _⟩) rfl 26 (.tmp 3) rfl _ rfl _ CF (0, 0) _ q3 Tryd.underlying26 rfl hsF ?_))
        refine (CN.out _ h8).mono ?_
        rintro e v3 ⟨rfl, g⟩
        replace h8 := chain h8 g
        replace q3 := (h8.block _ (lt_of_block Q3.out)).trans Q3.out
        replace RL := RdK.below RL g (Nat.le_refl _)
        replace RB := RdK.below RB g (Nat.le_refl _)
        clear g
        go_wp2_with ((with_reducible refine wpList_load_row (o := ⟨some 48, _, _, _, _, _⟩) rfl 26 (.tmp 3) rfl _ rfl _ CF (0, 0) _ q3 Tryd.underlying26 rfl hsF ?_))
        refine (WR.out _ h8).mono ?_
        rintro e v4 ⟨rfl, g⟩
        replace h8 := chain h8 g
        replace q3 := (h8.block _ (lt_of_block Q3.out)).trans Q3.out
        replace RL := RdK.below RL g (Nat.le_refl _)
        replace RB := RdK.below RB g (Nat.le_refl _)
        clear g SC BK CN WR
        by_cases hc : E = 0
        · have hmp : mayTs lF vs 16 = true ∧ patB fs = true ∧ patB ts = true := by
            have h0 := HE.out.symm.trans hc
            cases hm : mayTs lF vs 16 with
            | false => rw [ck_no hm] at h0; exact absurd h0 (by decide)
            | true =>
              cases hp : ([fs, ts] : List (List UInt8)).all patB with
              | true => exact ⟨rfl, by simpa using hp⟩
              | false => rw [ck_form hm hp] at h0; exact absurd h0 (by decide)
          obtain ⟨hmy, hpf, hpt⟩ := hmp
          have WH0 := fun W (g : Below WS.heap.size WS W) => whole_any CF lF vs fs ts W (TS.out.below g) (HT.out.below g (Nat.le_refl _)) szF lenF hmy hpf hpt ff tt
          obtain ⟨R, hR⟩ : ∃ L, L = rngL lF fs ts := ⟨_, rfl⟩
          obtain ⟨R2, hR2⟩ : ∃ L, L = R.reverse := ⟨_, rfl⟩
          have HR := Lib.hid (show R.length ≤ 1024 by rw [hR]; exact rng_len hmy _ _)
          have HL2 := Lib.hid (show R2.length = R.length by rw [hR2]; exact List.length_reverse)
          rw [← hR] at WH0
          have WH := Lib.hid WH0
          have s0 : scL lF vs fs ts 1024 = R := by rw [hR]; exact sc_full (HE.out.symm.trans hc)
          have e1 : SL = R.take m.toNat := by rw [HSL.out, hR]; unfold scL; rw [← HE.out, if_pos hc]
          have e2 : BL = R2.take m.toNat := by rw [HBL.out, s0, hR2]
          have e3 : nc = (R.length : Int) := by rw [HNC.out, s0]
          have HS := Lib.hid (show SL.length ≤ 1024 by rw [e1]; exact Nat.le_trans (take_len' _ _) HR.out)
          have HB := Lib.hid (show BL.length ≤ 1024 by rw [e2]; exact Nat.le_trans (take_len' _ _) (by rw [HL2.out]; exact HR.out))
          have E1 := Lib.hid e1
          have E2 := Lib.hid e2
          have HR2 := Lib.hid hR2
          have e5 : ez = 0 := by rw [HEZ.out, hc]; rfl
          have SAMEB : ∀ (W : World) (k : Nat), Below W.heap.size W (W.drewN k) := fun W k => below_drewN (Below.refl W.heap.size W)
          clear WH0 hR hR2 s0 e1 e2 HSL HBL HNC HE HEZ hc hmy hpf hpt
          subst e3
          subst e5
          go_wp2_with ((with_reducible refine wpList_load_row (o := ⟨some 84, _, _, _, _, _⟩) rfl 26 (.tmp 3) rfl _ rfl _ CF (0, 0) _ q3 Tryd.underlying26 rfl hsF ?_))
          refine (WH.out _ h8).mono ?_
          rintro e v5 ⟨vW, rfl, ownW, g⟩
          obtain ⟨aW, kW, rfl, -, -, RW⟩ := RdK.open (OwnI.rd (w := v5) ownW)
          replace h8 := chain h8 g
          replace RL := RdK.below RL g (Nat.le_refl _)
          replace RB := RdK.below RB g (Nat.le_refl _)
          clear g ownW q3
          go_wp2_with fail
          refine g_start (by kernel_rfl) ?_
          refine g_take (i := 0) (d := (some 88)) (v := ?_) rfl rfl (by kernel_rfl) (fun _ _ _ h => h) (by rfl) (fun w' hb' => ?_) ?_
          rotate_left
          · (try go_simp); (try with_reducible rfl)
          try simp only [Act.put, List.setIfInBounds_toArray, List.set_cons_zero, List.set_cons_succ]
          refine g_take (i := 1) (d := (some 89)) (v := ?_) rfl rfl (by kernel_rfl) (fun _ _ _ h => h) (by rfl) (fun w' hb' => ?_) ?_
          rotate_left
          · (try go_simp); (try with_reducible rfl)
          try simp only [Act.put, List.setIfInBounds_toArray, List.set_cons_zero, List.set_cons_succ]
          refine g_take (i := 2) (d := (some 90)) (v := ?_) rfl rfl (by kernel_rfl) (fun _ _ _ h => h) (by rfl) (fun w' hb' => ?_) ?_
          rotate_left
          · (try go_simp); (try with_reducible rfl)
          try simp only [Act.put, List.setIfInBounds_toArray, List.set_cons_zero, List.set_cons_succ]
          refine g_take (i := 3) (d := (some 91)) (v := ?_) rfl rfl (by kernel_rfl) (fun _ _ _ h => h) (by rfl) (fun w' hb' => ?_) ?_
          rotate_left
          · (have c34 := C34S.out _ (chain (Below.drew h8) hb')); (try go_simp); (try with_reducible rfl)
          try simp only [Act.put, List.setIfInBounds_toArray, List.set_cons_zero, List.set_cons_succ]
          refine g_run (i := 4) rfl (by kernel_rfl) (by rfl) (fun K hK => ?_)
          have bd := Below.drew (Below.refl v5.heap.size v5); replace h8 := chain h8 bd; replace RL := RdK.below RL bd (Nat.le_refl _); replace RB := RdK.below RB bd (Nat.le_refl _); replace RW := RdK.below RW bd (Nat.le_refl _); clear bd; go_simp; refine (head_any (.slice aW R.length kW) R m _ RW (by have := HR.out; omega)).mono ?_; rintro e w' ⟨⟨vH, rfl, RH⟩, rfl⟩; rw [← E1.out] at RH; obtain ⟨aH, kH, rfl, -, -, RH⟩ := RdK.open RH; refine hK _ _ ⟨Below.refl _ _, ?_⟩; clear hK K
          try simp only [Act.put, List.setIfInBounds_toArray, List.set_cons_zero, List.set_cons_succ]
          refine g_run (i := 5) rfl (by kernel_rfl) (by rfl) (fun K hK => ?_)
          go_simp; refine (refSame11_yes (.slice aL SL.length kL) (.slice aH SL.length kH) SL _ RL RH (by have := HS.out; omega)).mono ?_; rintro e w6 ⟨rfl, n1, hw⟩; have b1 : Below v5.drew.heap.size v5.drew w6 := (by rw [hw]; exact SAMEB _ n1); clear hw; replace h8 := chain h8 b1; replace RL := RdK.below RL b1 (Nat.le_refl _); replace RB := RdK.below RB b1 (Nat.le_refl _); replace RW := RdK.below RW b1 (Nat.le_refl _); refine hK _ _ ⟨b1, ?_⟩; clear hK K b1 RH
          try simp only [Act.put, List.setIfInBounds_toArray, List.set_cons_zero, List.set_cons_succ]
          refine g_take (i := 6) (d := (some 94)) (v := ?_) rfl rfl (by kernel_rfl) (fun _ _ _ h => h) (by rfl) (fun w' hb' => ?_) ?_
          rotate_left
          · (try go_simp); (try with_reducible rfl)
          try simp only [Act.put, List.setIfInBounds_toArray, List.set_cons_zero, List.set_cons_succ]
          refine g_take (i := 7) (d := (some 95)) (v := ?_) rfl rfl (by kernel_rfl) (fun _ _ _ h => h) (by rfl) (fun w' hb' => ?_) ?_
          rotate_left
          · (try go_simp); (try with_reducible rfl)
          try simp only [Act.put, List.setIfInBounds_toArray, List.set_cons_zero, List.set_cons_succ]
          refine g_take (i := 8) (d := (some 96)) (v := ?_) rfl rfl (by kernel_rfl) (fun _ _ _ h => h) (by rfl) (fun w' hb' => ?_) ?_
          rotate_left
          · (try go_simp); (try with_reducible rfl)
          try simp only [Act.put, List.setIfInBounds_toArray, List.set_cons_zero, List.set_cons_succ]
          refine g_take (i := 10) (d := (some 98)) (v := ?_) rfl rfl (by kernel_rfl) (fun _ _ _ h => h) (by rfl) (fun w' hb' => ?_) ?_
          rotate_left
          · (try go_simp); (try with_reducible rfl)
          try simp only [Act.put, List.setIfInBounds_toArray, List.set_cons_zero, List.set_cons_succ]
          refine g_take (i := 11) (d := (some 99)) (v := ?_) rfl rfl (by kernel_rfl) (fun _ _ _ h => h) (by rfl) (fun w' hb' => ?_) ?_
          rotate_left
          · (have c34 := C34S.out _ (chain h8 hb')); (try go_simp); (try with_reducible rfl)
          try simp only [Act.put, List.setIfInBounds_toArray, List.set_cons_zero, List.set_cons_succ]
          refine g_run (i := 9) rfl (by kernel_rfl) (by rfl) (fun K hK => ?_)
          go_simp; refine (turned_any (.slice aW R.length kW) R _ RW (by have := HR.out; omega)).mono ?_; rintro e u7 ⟨vT, rfl, ownT, g7⟩; rw [← HR2.out] at ownT; obtain ⟨aT, kT, rfl, -, -, RT⟩ := RdK.open (OwnI.rd (w := u7) ownT); replace h8 := chain h8 g7; replace RL := RdK.below RL g7 (Nat.le_refl _); replace RB := RdK.below RB g7 (Nat.le_refl _); replace RW := RdK.below RW g7 (Nat.le_refl _); refine hK _ _ ⟨g7, ?_⟩; clear hK K g7 ownT
          try simp only [Act.put, List.setIfInBounds_toArray, List.set_cons_zero, List.set_cons_succ]
          refine g_run (i := 12) rfl (by kernel_rfl) (by rfl) (fun K hK => ?_)
          go_simp; refine (head_any (.slice aT R2.length kT) R2 m _ RT (by have := HR.out; have := HL2.out; omega)).mono ?_; rintro e w' ⟨⟨vG, rfl, RG⟩, rfl⟩; rw [← E2.out] at RG; obtain ⟨aG, kG, rfl, -, -, RG⟩ := RdK.open RG; refine hK _ _ ⟨Below.refl _ _, ?_⟩; clear hK K
          try simp only [Act.put, List.setIfInBounds_toArray, List.set_cons_zero, List.set_cons_succ]
          refine g_run (i := 13) rfl (by kernel_rfl) (by rfl) (fun K hK => ?_)
          go_simp; refine (refSame11_yes (.slice aB BL.length kB) (.slice aG BL.length kG) BL _ RB RG (by have := HB.out; omega)).mono ?_; rintro e w8 ⟨rfl, n2, hw⟩; have b1 : Below u7.heap.size u7 w8 := (by rw [hw]; exact SAMEB _ n2); clear hw; replace h8 := chain h8 b1; replace RL := RdK.below RL b1 (Nat.le_refl _); replace RB := RdK.below RB b1 (Nat.le_refl _); replace RW := RdK.below RW b1 (Nat.le_refl _); refine hK _ _ ⟨b1, ?_⟩; clear hK K b1 RG RT
          try simp only [Act.put, List.setIfInBounds_toArray, List.set_cons_zero, List.set_cons_succ]
          refine g_take (i := 14) (d := (some 102)) (v := ?_) rfl rfl (by kernel_rfl) (fun _ _ _ h => h) (by rfl) (fun w' hb' => ?_) ?_
          rotate_left
          · (try go_simp); (try with_reducible rfl)
          try simp only [Act.put, List.setIfInBounds_toArray, List.set_cons_zero, List.set_cons_succ]
          refine g_take (i := 15) (d := (some 103)) (v := ?_) rfl rfl (by kernel_rfl) (fun _ _ _ h => h) (by rfl) (fun w' hb' => ?_) ?_
          rotate_left
          · (try go_simp); (try with_reducible rfl)
          try simp only [Act.put, List.setIfInBounds_toArray, List.set_cons_zero, List.set_cons_succ]
          refine g_take (i := 16) (d := (some 104)) (v := ?_) rfl rfl (by kernel_rfl) (fun _ _ _ h => h) (by rfl) (fun w' hb' => ?_) ?_
          rotate_left
          · (try go_simp); (try with_reducible rfl)
          try simp only [Act.put, List.setIfInBounds_toArray, List.set_cons_zero, List.set_cons_succ]
          refine g_take (i := 17) (d := (some 105)) (v := ?_) rfl rfl (by kernel_rfl) (fun _ _ _ h => h) (by rfl) (fun w' hb' => ?_) ?_
          rotate_left
          · (try go_simp); (try with_reducible rfl)
          try simp only [Act.put, List.setIfInBounds_toArray, List.set_cons_zero, List.set_cons_succ]
          refine g_take (i := 18) (d := (some 106)) (v := ?_) rfl rfl (by kernel_rfl) (fun _ _ _ h => h) (by rfl) (fun w' hb' => ?_) ?_
          rotate_left
          · (try go_simp); (try with_reducible rfl)
          try simp only [Act.put, List.setIfInBounds_toArray, List.set_cons_zero, List.set_cons_succ]
          refine g_take (i := 19) (d := (some 107)) (v := ?_) rfl rfl (by kernel_rfl) (fun _ _ _ h => h) (by rfl) (fun w' hb' => ?_) ?_
          rotate_left
          · (try go_simp); (try with_reducible rfl)
          try simp only [Act.put, List.setIfInBounds_toArray, List.set_cons_zero, List.set_cons_succ]
          refine g_take (i := 20) (d := (some 108)) (v := ?_) rfl rfl (by kernel_rfl) (fun _ _ _ h => h) (by rfl) (fun w' hb' => ?_) ?_
          rotate_left
          · (try go_simp); (try with_reducible rfl)
          try simp only [Act.put, List.setIfInBounds_toArray, List.set_cons_zero, List.set_cons_succ]
          refine g_take (i := 21) (d := (some 109)) (v := ?_) rfl rfl (by kernel_rfl) (fun _ _ _ h => h) (by rfl) (fun w' hb' => ?_) ?_
          rotate_left
          · (try go_simp); (try with_reducible rfl)
          try simp only [Act.put, List.setIfInBounds_toArray, List.set_cons_zero, List.set_cons_succ]
          refine g_take (i := 22) (d := (some 110)) (v := ?_) rfl rfl (by kernel_rfl) (fun _ _ _ h => h) (by rfl) (fun w' hb' => ?_) ?_
          rotate_left
          · (try go_simp); (try with_reducible rfl)
          try simp only [Act.put, List.setIfInBounds_toArray, List.set_cons_zero, List.set_cons_succ]
          refine g_take (i := 23) (d := (some 111)) (v := ?_) rfl rfl (by kernel_rfl) (fun _ _ _ h => h) (by rfl) (fun w' hb' => ?_) ?_
          rotate_left
          · (try go_simp); (try with_reducible rfl)
          try simp only [Act.put, List.setIfInBounds_toArray, List.set_cons_zero, List.set_cons_succ]
          refine g_take (i := 24) (d := (some 112)) (v := ?_) rfl rfl (by kernel_rfl) (fun _ _ _ h => h) (by rfl) (fun w' hb' => ?_) ?_
          rotate_left
          · (try go_simp); (try with_reducible rfl)
          try simp only [Act.put, List.setIfInBounds_toArray, List.set_cons_zero, List.set_cons_succ]
          refine g_take (i := 25) (d := (some 113)) (v := ?_) rfl rfl (by kernel_rfl) (fun _ _ _ h => h) (by rfl) (fun w' hb' => ?_) ?_
          rotate_left
          · (try go_simp); (try with_reducible rfl)
          try simp only [Act.put, List.setIfInBounds_toArray, List.set_cons_zero, List.set_cons_succ]
          refine g_take (i := 26) (d := (some 114)) (v := ?_) rfl rfl (by kernel_rfl) (fun _ _ _ h => h) (by rfl) (fun w' hb' => ?_) ?_
          rotate_left
          · (try go_simp); (try with_reducible rfl)
          try simp only [Act.put, List.setIfInBounds_toArray, List.set_cons_zero, List.set_cons_succ]
          refine g_take (i := 27) (d := (some 115)) (v := ?_) rfl rfl (by kernel_rfl) (fun _ _ _ h => h) (by rfl) (fun w' hb' => ?_) ?_
          rotate_left
          · (try go_simp); (try with_reducible rfl)
          try simp only [Act.put, List.setIfInBounds_toArray, List.set_cons_zero, List.set_cons_succ]
          refine g_take (i := 28) (d := (some 116)) (v := ?_) rfl rfl (by kernel_rfl) (fun _ _ _ h => h) (by rfl) (fun w' hb' => ?_) ?_
          rotate_left
          · (try go_simp); (try with_reducible rfl)
          try simp only [Act.put, List.setIfInBounds_toArray, List.set_cons_zero, List.set_cons_succ]
          refine g_take (i := 29) (d := (some 117)) (v := ?_) rfl rfl (by kernel_rfl) (fun _ _ _ h => h) (by rfl) (fun w' hb' => ?_) ?_
          rotate_left
          · (try go_simp); (try with_reducible rfl)
          try simp only [Act.put, List.setIfInBounds_toArray, List.set_cons_zero, List.set_cons_succ]
          refine g_take (i := 30) (d := (some 118)) (v := ?_) rfl rfl (by kernel_rfl) (fun _ _ _ h => h) (by rfl) (fun w' hb' => ?_) ?_
          rotate_left
          · (try go_simp); (try with_reducible rfl)
          try simp only [Act.put, List.setIfInBounds_toArray, List.set_cons_zero, List.set_cons_succ]
          refine g_take (i := 31) (d := (some 119)) (v := ?_) rfl rfl (by kernel_rfl) (fun _ _ _ h => h) (by rfl) (fun w' hb' => ?_) ?_
          rotate_left
          · (try go_simp); (try with_reducible rfl)
          try simp only [Act.put, List.setIfInBounds_toArray, List.set_cons_zero, List.set_cons_succ]
          refine g_take (i := 32) (d := (some 120)) (v := ?_) rfl rfl (by kernel_rfl) (fun _ _ _ h => h) (by rfl) (fun w' hb' => ?_) ?_
          rotate_left
          · (try go_simp); (try with_reducible rfl)
          try simp only [Act.put, List.setIfInBounds_toArray, List.set_cons_zero, List.set_cons_succ]
          refine g_take (i := 33) (d := (some 121)) (v := ?_) rfl rfl (by kernel_rfl) (fun _ _ _ h => h) (by rfl) (fun w' hb' => ?_) ?_
          rotate_left
          · (try go_simp); (try with_reducible rfl)
          try simp only [Act.put, List.setIfInBounds_toArray, List.set_cons_zero, List.set_cons_succ]
          refine g_run (i := 34) rfl (by kernel_rfl) (by rfl) (fun K hK => ?_)
          go_simp; refine (AW.out _ h8).mono ?_; rintro e uz ⟨rfl, gz⟩; replace h8 := chain h8 gz; refine hK _ _ ⟨gz, ?_⟩; clear hK K gz
          try simp only [Act.put, List.setIfInBounds_toArray, List.set_cons_zero, List.set_cons_succ]
          refine g_take (i := 35) (d := (some 123)) (v := ?_) rfl rfl (by kernel_rfl) (fun _ _ _ h => h) (by rfl) (fun w' hb' => ?_) ?_
          rotate_left
          · (try go_simp); (try with_reducible rfl)
          try simp only [Act.put, List.setIfInBounds_toArray, List.set_cons_zero, List.set_cons_succ]
          refine g_take (i := 36) (d := (some 2)) (v := ?_) rfl rfl (by kernel_rfl) (fun _ _ _ h => h) (by rfl) (fun w' hb' => ?_) ?_
          rotate_left
          · (try go_simp); (try with_reducible rfl)
          try simp only [Act.put, List.setIfInBounds_toArray, List.set_cons_zero, List.set_cons_succ]
          refine g_done (by kernel_rfl) ?_
          go_wp2_with fail
          go_ret
          exact ⟨rfl, chain BW.out h8⟩
        · have e1 : SL.length = 0 := by rw [HSL.out]; unfold scL; rw [← HE.out, if_neg hc]; rfl
          have e2 : BL.length = 0 := by rw [HBL.out, sc_none (by rw [← HE.out]; exact hc)]; simp
          have e3 : nc = 0 := by rw [HNC.out, sc_none (by rw [← HE.out]; exact hc)]; rfl
          have d1 : (ez != 0) = true := by rw [HEZ.out]; simp; omega
          rw [e1, e2, e3]
          clear HSL HBL HNC HE HEZ hc e1 e2 e3 RL RB q3
          go_wp2_with ((with_reducible refine (AW.out _ h8).mono ?_); rintro e uz ⟨rfl, gz⟩; (replace h8 := chain h8 gz))
          go_ret
          exact ⟨rfl, chain BW.out h8⟩
      · skip
        go_simp
        have qz : (World.alloc y1 (.cells zT 26)).heap[y1.heap.size]? = some (.cells zT 26 (0, 0)) := heap_alloc_new y1 (.cells zT 26)
        have GA0 : W0.heap.size ≤ y1.heap.size := hS.size
        have GAF : y1.heap.size ≤ y1.heap.size := hF.size
        have g := (Below.refl y1.heap.size y1).alloc (Nat.le_refl _) (.cells zT 26)
        have hS : Below W0.heap.size W0 (World.alloc y1 (.cells zT 26)) := hS.alloc hS.size (.cells zT 26)
        have own := own.below g
        have hF := chain hF g
        refine hK _ _ ⟨hS, ?_⟩
        clear hK K g
        obtain ⟨y2, hy⟩ : ∃ W, W = World.alloc y1 (.cells zT 26) := ⟨_, rfl⟩
        rw [← hy] at qz hS own hF ⊢
        clear hy
        try simp only [Act.put, List.setIfInBounds_toArray, List.set_cons_zero, List.set_cons_succ]
        refine gs_run (i := 8) rfl (by kernel_rfl) (by rfl) (fun K hK => ?_)
        go_simp
        refine (ST.out _).mono ?_
        rintro e w' ⟨rfl, rfl⟩
        refine hK _ _ ⟨hS, ?_⟩
        clear hK K
        try simp only [Act.put, List.setIfInBounds_toArray, List.set_cons_zero, List.set_cons_succ]
        refine gs_run (i := 10) rfl (by kernel_rfl) (by rfl) (fun K hK => ?_)
        have hsF := infoTc own.size
        have hzF : zT.size = CF.size := by rw [own.size]; rfl
        have hoF := own.rd.one
        refine wp_store_row 26 (.tmp 3) (.tmp 16) rfl _ CF rfl rfl _ zT qz hsF hzF hoF ?_
        have qn := setRow_heap _ _ _ CF _ _ qz
        have hS := below_row hS GA0 CF
        have hF := below_row hF GAF CF
        refine hK _ _ ⟨hS, ?_⟩
        clear hK K
        obtain ⟨WS, hWS⟩ : ∃ W, W = World.setRow y2 y1.heap.size CF := ⟨_, rfl⟩
        rw [← hWS] at qn hS hF  ⊢
        clear hWS
        have HT := Lib.hid (show RdT WS CF lF vs from RF.out.below hF (Nat.le_refl _))
        have Q3 := Lib.hid qn
        clear qz qn hF own RF hsF hzF hoF GAF
        try simp only [Act.put, List.setIfInBounds_toArray, List.set_cons_zero, List.set_cons_succ]
        refine gs_take (i := 11) (d := (some 4)) (v := ?_) rfl rfl (by kernel_rfl) (fun _ _ _ h => h) (by rfl) hS (fun w' hb' => ?_) ?_
        rotate_left
        · (try go_simp); (try with_reducible rfl)
        try simp only [Act.put, List.setIfInBounds_toArray, List.set_cons_zero, List.set_cons_succ]
        refine gs_take (i := 12) (d := (some 5)) (v := ?_) rfl rfl (by kernel_rfl) (fun _ _ _ h => h) (by rfl) hS (fun w' hb' => ?_) ?_
        rotate_left
        · (try go_simp); (try with_reducible rfl)
        try simp only [Act.put, List.setIfInBounds_toArray, List.set_cons_zero, List.set_cons_succ]
        refine gs_done (by kernel_rfl) ?_
        have GAW : w.heap.size < y1.heap.size := by have := lt_of_block Q1.out; omega
        obtain ⟨ga, hga⟩ : ∃ ga, ga = y1.heap.size := ⟨_, rfl⟩
        rw [← hga] at GAW Q3 ⊢
        clear hga GA0
        have hsF := infoTc HT.out.size
        have BW := Lib.hid (chain BEL.out hS)
        have TS := Lib.hid (TAB.out.below BW.out)
        have C34S := Lib.hid (fun W (g : Below WS.heap.size WS W) => C34.out W (chain hS g))
        have h8 := Below.refl WS.heap.size WS
        clear PT FW C32 C33 C34 SF ST hS z0 z1 hs0
        have SC0 := fun W (g : Below WS.heap.size WS W) => scan_any CF lF vs fs ts m W (TS.out.below g) (HT.out.below g (Nat.le_refl _)) szF ff tt
        have BK0 := fun W (g : Below WS.heap.size WS W) => back_any CF lF vs fs ts m W (TS.out.below g) (HT.out.below g (Nat.le_refl _)) szF ff tt
        have CN0 := fun W (g : Below WS.heap.size WS W) => count11_any CF lF vs fs ts W (TS.out.below g) (HT.out.below g (Nat.le_refl _)) szF ff tt
        have WR0 := fun W (g : Below WS.heap.size WS W) => wrong_any CF lF vs fs ts W (TS.out.below g) (HT.out.below g (Nat.le_refl _)) szF lenF ff tt
        have AW := Lib.hid (fun W (g : Below WS.heap.size WS W) => awake11_any W (TS.out.below g))
        obtain ⟨SL, hSL⟩ : ∃ X, X = scL lF vs fs ts m := ⟨_, rfl⟩
        obtain ⟨BL, hBL⟩ : ∃ X, X = (scL lF vs fs ts 1024).reverse.take m.toNat := ⟨_, rfl⟩
        obtain ⟨nc, hnc⟩ : ∃ z : Int, z = ((scL lF vs fs ts 1024).length : Int) := ⟨_, rfl⟩
        obtain ⟨E, hE⟩ : ∃ X, X = ckE lF vs [fs, ts] := ⟨_, rfl⟩
        obtain ⟨ez, hez⟩ : ∃ z : Int, z = (E : Int) := ⟨_, rfl⟩
        rw [← hSL, ← hE, ← hez] at SC0
        rw [← hBL, ← hE, ← hez] at BK0
        rw [← hnc, ← hE, ← hez] at CN0
        rw [← hE, ← hez] at WR0
        have SC := Lib.hid SC0
        have BK := Lib.hid BK0
        have CN := Lib.hid CN0
        have WR := Lib.hid WR0
        have HSL := Lib.hid hSL
        have HBL := Lib.hid hBL
        have HNC := Lib.hid hnc
        have HE := Lib.hid hE
        have HEZ := Lib.hid hez
        clear SC0 BK0 CN0 WR0 hSL hBL hnc hE hez
        have q3 := Q3.out
        have c34 := C34S.out _ h8
        go_wp2_with ((with_reducible refine wpList_load_row (o := ⟨some 24, _, _, _, _, _⟩) rfl 26 (.tmp 3) rfl _ rfl _ CF (0, 0) _ q3 Tryd.underlying26 rfl hsF ?_))
        refine (SC.out _ h8).mono ?_
        rintro e v1 ⟨vL, rfl, ownL, g⟩
        obtain ⟨aL, kL, rfl, -, -, RL⟩ := RdK.open (OwnI.rd (w := v1) ownL)
        replace h8 := chain h8 g
        replace q3 := (h8.block _ (lt_of_block Q3.out)).trans Q3.out
        replace c34 := C34S.out _ h8
        clear g ownL
        go_wp2_with ((with_reducible refine wpList_load_row (o := ⟨some 33, _, _, _, _, _⟩) rfl 26 (.tmp 3) rfl _ rfl _ CF (0, 0) _ q3 Tryd.underlying26 rfl hsF ?_))
        refine (BK.out _ h8).mono ?_
        rintro e v2 ⟨vB, rfl, ownB, g⟩
        obtain ⟨aB, kB, rfl, -, -, RB⟩ := RdK.open (OwnI.rd (w := v2) ownB)
        replace h8 := chain h8 g
        replace q3 := (h8.block _ (lt_of_block Q3.out)).trans Q3.out
        replace RL := RdK.below RL g (Nat.le_refl _)
        clear g ownB c34
        go_wp2_with ((with_reducible refine wpList_load_row (o := ⟨some 42, _, _, _, _, _⟩) rfl 26 (.tmp 3) rfl _ rfl _ CF (0, 0) _ q3 Tryd.underlying26 rfl hsF ?_))
        refine (CN.out _ h8).mono ?_
        rintro e v3 ⟨rfl, g⟩
        replace h8 := chain h8 g
        replace q3 := (h8.block _ (lt_of_block Q3.out)).trans Q3.out
        replace RL := RdK.below RL g (Nat.le_refl _)
        replace RB := RdK.below RB g (Nat.le_refl _)
        clear g
        go_wp2_with ((with_reducible refine wpList_load_row (o := ⟨some 48, _, _, _, _, _⟩) rfl 26 (.tmp 3) rfl _ rfl _ CF (0, 0) _ q3 Tryd.underlying26 rfl hsF ?_))
        refine (WR.out _ h8).mono ?_
        rintro e v4 ⟨rfl, g⟩
        replace h8 := chain h8 g
        replace q3 := (h8.block _ (lt_of_block Q3.out)).trans Q3.out
        replace RL := RdK.below RL g (Nat.le_refl _)
        replace RB := RdK.below RB g (Nat.le_refl _)
        clear g SC BK CN WR
        by_cases hc : E = 0
        · have hmp : mayTs lF vs 16 = true ∧ patB fs = true ∧ patB ts = true := by
            have h0 := HE.out.symm.trans hc
            cases hm : mayTs lF vs 16 with
            | false => rw [ck_no hm] at h0; exact absurd h0 (by decide)
            | true =>
              cases hp : ([fs, ts] : List (List UInt8)).all patB with
              | true => exact ⟨rfl, by simpa using hp⟩
              | false => rw [ck_form hm hp] at h0; exact absurd h0 (by decide)
          obtain ⟨hmy, hpf, hpt⟩ := hmp
          have WH0 := fun W (g : Below WS.heap.size WS W) => whole_any CF lF vs fs ts W (TS.out.below g) (HT.out.below g (Nat.le_refl _)) szF lenF hmy hpf hpt ff tt
          obtain ⟨R, hR⟩ : ∃ L, L = rngL lF fs ts := ⟨_, rfl⟩
          obtain ⟨R2, hR2⟩ : ∃ L, L = R.reverse := ⟨_, rfl⟩
          have HR := Lib.hid (show R.length ≤ 1024 by rw [hR]; exact rng_len hmy _ _)
          have HL2 := Lib.hid (show R2.length = R.length by rw [hR2]; exact List.length_reverse)
          rw [← hR] at WH0
          have WH := Lib.hid WH0
          have s0 : scL lF vs fs ts 1024 = R := by rw [hR]; exact sc_full (HE.out.symm.trans hc)
          have e1 : SL = R.take m.toNat := by rw [HSL.out, hR]; unfold scL; rw [← HE.out, if_pos hc]
          have e2 : BL = R2.take m.toNat := by rw [HBL.out, s0, hR2]
          have e3 : nc = (R.length : Int) := by rw [HNC.out, s0]
          have HS := Lib.hid (show SL.length ≤ 1024 by rw [e1]; exact Nat.le_trans (take_len' _ _) HR.out)
          have HB := Lib.hid (show BL.length ≤ 1024 by rw [e2]; exact Nat.le_trans (take_len' _ _) (by rw [HL2.out]; exact HR.out))
          have E1 := Lib.hid e1
          have E2 := Lib.hid e2
          have HR2 := Lib.hid hR2
          have e5 : ez = 0 := by rw [HEZ.out, hc]; rfl
          have SAMEB : ∀ (W : World) (k : Nat), Below W.heap.size W (W.drewN k) := fun W k => below_drewN (Below.refl W.heap.size W)
          clear WH0 hR hR2 s0 e1 e2 HSL HBL HNC HE HEZ hc hmy hpf hpt
          subst e3
          subst e5
          go_wp2_with ((with_reducible refine wpList_load_row (o := ⟨some 84, _, _, _, _, _⟩) rfl 26 (.tmp 3) rfl _ rfl _ CF (0, 0) _ q3 Tryd.underlying26 rfl hsF ?_))
          refine (WH.out _ h8).mono ?_
          rintro e v5 ⟨vW, rfl, ownW, g⟩
          obtain ⟨aW, kW, rfl, -, -, RW⟩ := RdK.open (OwnI.rd (w := v5) ownW)
          replace h8 := chain h8 g
          replace RL := RdK.below RL g (Nat.le_refl _)
          replace RB := RdK.below RB g (Nat.le_refl _)
          clear g ownW q3
          go_wp2_with fail
          refine g_start (by kernel_rfl) ?_
          refine g_take (i := 0) (d := (some 88)) (v := ?_) rfl rfl (by kernel_rfl) (fun _ _ _ h => h) (by rfl) (fun w' hb' => ?_) ?_
          rotate_left
          · (try go_simp); (try with_reducible rfl)
          try simp only [Act.put, List.setIfInBounds_toArray, List.set_cons_zero, List.set_cons_succ]
          refine g_take (i := 1) (d := (some 89)) (v := ?_) rfl rfl (by kernel_rfl) (fun _ _ _ h => h) (by rfl) (fun w' hb' => ?_) ?_
          rotate_left
          · (try go_simp); (try with_reducible rfl)
          try simp only [Act.put, List.setIfInBounds_toArray, List.set_cons_zero, List.set_cons_succ]
          refine g_take (i := 2) (d := (some 90)) (v := ?_) rfl rfl (by kernel_rfl) (fun _ _ _ h => h) (by rfl) (fun w' hb' => ?_) ?_
          rotate_left
          · (try go_simp); (try with_reducible rfl)
          try simp only [Act.put, List.setIfInBounds_toArray, List.set_cons_zero, List.set_cons_succ]
          refine g_take (i := 3) (d := (some 91)) (v := ?_) rfl rfl (by kernel_rfl) (fun _ _ _ h => h) (by rfl) (fun w' hb' => ?_) ?_
          rotate_left
          · (have c34 := C34S.out _ (chain (Below.drew h8) hb')); (try go_simp); (try with_reducible rfl)
          try simp only [Act.put, List.setIfInBounds_toArray, List.set_cons_zero, List.set_cons_succ]
          refine g_run (i := 4) rfl (by kernel_rfl) (by rfl) (fun K hK => ?_)
          have bd := Below.drew (Below.refl v5.heap.size v5); replace h8 := chain h8 bd; replace RL := RdK.below RL bd (Nat.le_refl _); replace RB := RdK.below RB bd (Nat.le_refl _); replace RW := RdK.below RW bd (Nat.le_refl _); clear bd; go_simp; refine (head_any (.slice aW R.length kW) R m _ RW (by have := HR.out; omega)).mono ?_; rintro e w' ⟨⟨vH, rfl, RH⟩, rfl⟩; rw [← E1.out] at RH; obtain ⟨aH, kH, rfl, -, -, RH⟩ := RdK.open RH; refine hK _ _ ⟨Below.refl _ _, ?_⟩; clear hK K
          try simp only [Act.put, List.setIfInBounds_toArray, List.set_cons_zero, List.set_cons_succ]
          refine g_run (i := 5) rfl (by kernel_rfl) (by rfl) (fun K hK => ?_)
          go_simp; refine (refSame11_yes (.slice aL SL.length kL) (.slice aH SL.length kH) SL _ RL RH (by have := HS.out; omega)).mono ?_; rintro e w6 ⟨rfl, n1, hw⟩; have b1 : Below v5.drew.heap.size v5.drew w6 := (by rw [hw]; exact SAMEB _ n1); clear hw; replace h8 := chain h8 b1; replace RL := RdK.below RL b1 (Nat.le_refl _); replace RB := RdK.below RB b1 (Nat.le_refl _); replace RW := RdK.below RW b1 (Nat.le_refl _); refine hK _ _ ⟨b1, ?_⟩; clear hK K b1 RH
          try simp only [Act.put, List.setIfInBounds_toArray, List.set_cons_zero, List.set_cons_succ]
          refine g_take (i := 6) (d := (some 94)) (v := ?_) rfl rfl (by kernel_rfl) (fun _ _ _ h => h) (by rfl) (fun w' hb' => ?_) ?_
          rotate_left
          · (try go_simp); (try with_reducible rfl)
          try simp only [Act.put, List.setIfInBounds_toArray, List.set_cons_zero, List.set_cons_succ]
          refine g_take (i := 7) (d := (some 95)) (v := ?_) rfl rfl (by kernel_rfl) (fun _ _ _ h => h) (by rfl) (fun w' hb' => ?_) ?_
          rotate_left
          · (try go_simp); (try with_reducible rfl)
          try simp only [Act.put, List.setIfInBounds_toArray, List.set_cons_zero, List.set_cons_succ]
          refine g_take (i := 8) (d := (some 96)) (v := ?_) rfl rfl (by kernel_rfl) (fun _ _ _ h => h) (by rfl) (fun w' hb' => ?_) ?_
          rotate_left
          · (try go_simp); (try with_reducible rfl)
          try simp only [Act.put, List.setIfInBounds_toArray, List.set_cons_zero, List.set_cons_succ]
          refine g_take (i := 10) (d := (some 98)) (v := ?_) rfl rfl (by kernel_rfl) (fun _ _ _ h => h) (by rfl) (fun w' hb' => ?_) ?_
          rotate_left
          · (try go_simp); (try with_reducible rfl)
          try simp only [Act.put, List.setIfInBounds_toArray, List.set_cons_zero, List.set_cons_succ]
          refine g_take (i := 11) (d := (some 99)) (v := ?_) rfl rfl (by kernel_rfl) (fun _ _ _ h => h) (by rfl) (fun w' hb' => ?_) ?_
          rotate_left
          · (have c34 := C34S.out _ (chain h8 hb')); (try go_simp); (try with_reducible rfl)
          try simp only [Act.put, List.setIfInBounds_toArray, List.set_cons_zero, List.set_cons_succ]
          refine g_run (i := 9) rfl (by kernel_rfl) (by rfl) (fun K hK => ?_)
          go_simp; refine (turned_any (.slice aW R.length kW) R _ RW (by have := HR.out; omega)).mono ?_; rintro e u7 ⟨vT, rfl, ownT, g7⟩; rw [← HR2.out] at ownT; obtain ⟨aT, kT, rfl, -, -, RT⟩ := RdK.open (OwnI.rd (w := u7) ownT); replace h8 := chain h8 g7; replace RL := RdK.below RL g7 (Nat.le_refl _); replace RB := RdK.below RB g7 (Nat.le_refl _); replace RW := RdK.below RW g7 (Nat.le_refl _); refine hK _ _ ⟨g7, ?_⟩; clear hK K g7 ownT
          try simp only [Act.put, List.setIfInBounds_toArray, List.set_cons_zero, List.set_cons_succ]
          refine g_run (i := 12) rfl (by kernel_rfl) (by rfl) (fun K hK => ?_)
          go_simp; refine (head_any (.slice aT R2.length kT) R2 m _ RT (by have := HR.out; have := HL2.out; omega)).mono ?_; rintro e w' ⟨⟨vG, rfl, RG⟩, rfl⟩; rw [← E2.out] at RG; obtain ⟨aG, kG, rfl, -, -, RG⟩ := RdK.open RG; refine hK _ _ ⟨Below.refl _ _, ?_⟩; clear hK K
          try simp only [Act.put, List.setIfInBounds_toArray, List.set_cons_zero, List.set_cons_succ]
          refine g_run (i := 13) rfl (by kernel_rfl) (by rfl) (fun K hK => ?_)
          go_simp; refine (refSame11_yes (.slice aB BL.length kB) (.slice aG BL.length kG) BL _ RB RG (by have := HB.out; omega)).mono ?_; rintro e w8 ⟨rfl, n2, hw⟩; have b1 : Below u7.heap.size u7 w8 := (by rw [hw]; exact SAMEB _ n2); clear hw; replace h8 := chain h8 b1; replace RL := RdK.below RL b1 (Nat.le_refl _); replace RB := RdK.below RB b1 (Nat.le_refl _); replace RW := RdK.below RW b1 (Nat.le_refl _); refine hK _ _ ⟨b1, ?_⟩; clear hK K b1 RG RT
          try simp only [Act.put, List.setIfInBounds_toArray, List.set_cons_zero, List.set_cons_succ]
          refine g_take (i := 14) (d := (some 102)) (v := ?_) rfl rfl (by kernel_rfl) (fun _ _ _ h => h) (by rfl) (fun w' hb' => ?_) ?_
          rotate_left
          · (try go_simp); (try with_reducible rfl)
          try simp only [Act.put, List.setIfInBounds_toArray, List.set_cons_zero, List.set_cons_succ]
          refine g_take (i := 15) (d := (some 103)) (v := ?_) rfl rfl (by kernel_rfl) (fun _ _ _ h => h) (by rfl) (fun w' hb' => ?_) ?_
          rotate_left
          · (try go_simp); (try with_reducible rfl)
          try simp only [Act.put, List.setIfInBounds_toArray, List.set_cons_zero, List.set_cons_succ]
          refine g_take (i := 16) (d := (some 104)) (v := ?_) rfl rfl (by kernel_rfl) (fun _ _ _ h => h) (by rfl) (fun w' hb' => ?_) ?_
          rotate_left
          · (try go_simp); (try with_reducible rfl)
          try simp only [Act.put, List.setIfInBounds_toArray, List.set_cons_zero, List.set_cons_succ]
          refine g_take (i := 17) (d := (some 105)) (v := ?_) rfl rfl (by kernel_rfl) (fun _ _ _ h => h) (by rfl) (fun w' hb' => ?_) ?_
          rotate_left
          · (try go_simp); (try with_reducible rfl)
          try simp only [Act.put, List.setIfInBounds_toArray, List.set_cons_zero, List.set_cons_succ]
          refine g_take (i := 18) (d := (some 106)) (v := ?_) rfl rfl (by kernel_rfl) (fun _ _ _ h => h) (by rfl) (fun w' hb' => ?_) ?_
          rotate_left
          · (try go_simp); (try with_reducible rfl)
          try simp only [Act.put, List.setIfInBounds_toArray, List.set_cons_zero, List.set_cons_succ]
          refine g_take (i := 19) (d := (some 107)) (v := ?_) rfl rfl (by kernel_rfl) (fun _ _ _ h => h) (by rfl) (fun w' hb' => ?_) ?_
          rotate_left
          · (try go_simp); (try with_reducible rfl)
          try simp only [Act.put, List.setIfInBounds_toArray, List.set_cons_zero, List.set_cons_succ]
          refine g_take (i := 20) (d := (some 108)) (v := ?_) rfl rfl (by kernel_rfl) (fun _ _ _ h => h) (by rfl) (fun w' hb' => ?_) ?_
          rotate_left
          · (try go_simp); (try with_reducible rfl)
          try simp only [Act.put, List.setIfInBounds_toArray, List.set_cons_zero, List.set_cons_succ]
          refine g_take (i := 21) (d := (some 109)) (v := ?_) rfl rfl (by kernel_rfl) (fun _ _ _ h => h) (by rfl) (fun w' hb' => ?_) ?_
          rotate_left
          · (try go_simp); (try with_reducible rfl)
          try simp only [Act.put, List.setIfInBounds_toArray, List.set_cons_zero, List.set_cons_succ]
          refine g_take (i := 22) (d := (some 110)) (v := ?_) rfl rfl (by kernel_rfl) (fun _ _ _ h => h) (by rfl) (fun w' hb' => ?_) ?_
          rotate_left
          · (try go_simp); (try with_reducible rfl)
          try simp only [Act.put, List.setIfInBounds_toArray, List.set_cons_zero, List.set_cons_succ]
          refine g_take (i := 23) (d := (some 111)) (v := ?_) rfl rfl (by kernel_rfl) (fun _ _ _ h => h) (by rfl) (fun w' hb' => ?_) ?_
          rotate_left
          · (try go_simp); (try with_reducible rfl)
          try simp only [Act.put, List.setIfInBounds_toArray, List.set_cons_zero, List.set_cons_succ]
          refine g_take (i := 24) (d := (some 112)) (v := ?_) rfl rfl (by kernel_rfl) (fun _ _ _ h => h) (by rfl) (fun w' hb' => ?_) ?_
          rotate_left
          · (try go_simp); (try with_reducible rfl)
          try simp only [Act.put, List.setIfInBounds_toArray, List.set_cons_zero, List.set_cons_succ]
          refine g_take (i := 25) (d := (some 113)) (v := ?_) rfl rfl (by kernel_rfl) (fun _ _ _ h => h) (by rfl) (fun w' hb' => ?_) ?_
          rotate_left
          · (try go_simp); (try with_reducible rfl)
          try simp only [Act.put, List.setIfInBounds_toArray, List.set_cons_zero, List.set_cons_succ]
          refine g_take (i := 26) (d := (some 114)) (v := ?_) rfl rfl (by kernel_rfl) (fun _ _ _ h => h) (by rfl) (fun w' hb' => ?_) ?_
          rotate_left
          · (try go_simp); (try with_reducible rfl)
          try simp only [Act.put, List.setIfInBounds_toArray, List.set_cons_zero, List.set_cons_succ]
          refine g_take (i := 27) (d := (some 115)) (v := ?_) rfl rfl (by kernel_rfl) (fun _ _ _ h => h) (by rfl) (fun w' hb' => ?_) ?_
          rotate_left
          · (try go_simp); (try with_reducible rfl)
          try simp only [Act.put, List.setIfInBounds_toArray, List.set_cons_zero, List.set_cons_succ]
          refine g_take (i := 28) (d := (some 116)) (v := ?_) rfl rfl (by kernel_rfl) (fun _ _ _ h => h) (by rfl) (fun w' hb' => ?_) ?_
          rotate_left
          · (try go_simp); (try with_reducible rfl)
          try simp only [Act.put, List.setIfInBounds_toArray, List.set_cons_zero, List.set_cons_succ]
          refine g_take (i := 29) (d := (some 117)) (v := ?_) rfl rfl (by kernel_rfl) (fun _ _ _ h => h) (by rfl) (fun w' hb' => ?_) ?_
          rotate_left
          · (try go_simp); (try with_reducible rfl)
          try simp only [Act.put, List.setIfInBounds_toArray, List.set_cons_zero, List.set_cons_succ]
          refine g_take (i := 30) (d := (some 118)) (v := ?_) rfl rfl (by kernel_rfl) (fun _ _ _ h => h) (by rfl) (fun w' hb' => ?_) ?_
          rotate_left
          · (try go_simp); (try with_reducible rfl)
          try simp only [Act.put, List.setIfInBounds_toArray, List.set_cons_zero, List.set_cons_succ]
          refine g_take (i := 31) (d := (some 119)) (v := ?_) rfl rfl (by kernel_rfl) (fun _ _ _ h => h) (by rfl) (fun w' hb' => ?_) ?_
          rotate_left
          · (try go_simp); (try with_reducible rfl)
          try simp only [Act.put, List.setIfInBounds_toArray, List.set_cons_zero, List.set_cons_succ]
          refine g_take (i := 32) (d := (some 120)) (v := ?_) rfl rfl (by kernel_rfl) (fun _ _ _ h => h) (by rfl) (fun w' hb' => ?_) ?_
          rotate_left
          · (try go_simp); (try with_reducible rfl)
          try simp only [Act.put, List.setIfInBounds_toArray, List.set_cons_zero, List.set_cons_succ]
          refine g_take (i := 33) (d := (some 121)) (v := ?_) rfl rfl (by kernel_rfl) (fun _ _ _ h => h) (by rfl) (fun w' hb' => ?_) ?_
          rotate_left
          · (try go_simp); (try with_reducible rfl)
          try simp only [Act.put, List.setIfInBounds_toArray, List.set_cons_zero, List.set_cons_succ]
          refine g_run (i := 34) rfl (by kernel_rfl) (by rfl) (fun K hK => ?_)
          go_simp; refine (AW.out _ h8).mono ?_; rintro e uz ⟨rfl, gz⟩; replace h8 := chain h8 gz; refine hK _ _ ⟨gz, ?_⟩; clear hK K gz
          try simp only [Act.put, List.setIfInBounds_toArray, List.set_cons_zero, List.set_cons_succ]
          refine g_take (i := 35) (d := (some 123)) (v := ?_) rfl rfl (by kernel_rfl) (fun _ _ _ h => h) (by rfl) (fun w' hb' => ?_) ?_
          rotate_left
          · (try go_simp); (try with_reducible rfl)
          try simp only [Act.put, List.setIfInBounds_toArray, List.set_cons_zero, List.set_cons_succ]
          refine g_take (i := 36) (d := (some 2)) (v := ?_) rfl rfl (by kernel_rfl) (fun _ _ _ h => h) (by rfl) (fun w' hb' => ?_) ?_
          rotate_left
          · (try go_simp); (try with_reducible rfl)
          try simp only [Act.put, List.setIfInBounds_toArray, List.set_cons_zero, List.set_cons_succ]
          refine g_done (by kernel_rfl) ?_
          go_wp2_with fail
          go_ret
          exact ⟨rfl, chain BW.out h8⟩
        · have e1 : SL.length = 0 := by rw [HSL.out]; unfold scL; rw [← HE.out, if_neg hc]; rfl
          have e2 : BL.length = 0 := by rw [HBL.out, sc_none (by rw [← HE.out]; exact hc)]; simp
          have e3 : nc = 0 := by rw [HNC.out, sc_none (by rw [← HE.out]; exact hc)]; rfl
          have d1 : (ez != 0) = true := by rw [HEZ.out]; simp; omega
          rw [e1, e2, e3]
          clear HSL HBL HNC HE HEZ hc e1 e2 e3 RL RB q3
          go_wp2_with ((with_reducible refine (AW.out _ h8).mono ?_); rintro e uz ⟨rfl, gz⟩; (replace h8 := chain h8 gz))
          go_ret
          exact ⟨rfl, chain BW.out h8⟩
    · skip
      go_simp
      have qz : (World.alloc y1 (.cells zT 26)).heap[y1.heap.size]? = some (.cells zT 26 (0, 0)) := heap_alloc_new y1 (.cells zT 26)
      have GA0 : W0.heap.size ≤ y1.heap.size := hS.size
      have GAF : y1.heap.size ≤ y1.heap.size := hF.size
      have g := (Below.refl y1.heap.size y1).alloc (Nat.le_refl _) (.cells zT 26)
      have hS : Below W0.heap.size W0 (World.alloc y1 (.cells zT 26)) := hS.alloc hS.size (.cells zT 26)
      have own := own.below g
      have hF := chain hF g
      refine hK _ _ ⟨hS, ?_⟩
      clear hK K g
      obtain ⟨y2, hy⟩ : ∃ W, W = World.alloc y1 (.cells zT 26) := ⟨_, rfl⟩
      rw [← hy] at qz hS own hF ⊢
      clear hy
      try simp only [Act.put, List.setIfInBounds_toArray, List.set_cons_zero, List.set_cons_succ]
      refine gs_run (i := 5) rfl (by kernel_rfl) (by rfl) (fun K hK => ?_)
      go_simp
      refine (SF.out _).mono ?_
      rintro e w' ⟨rfl, rfl⟩
      refine hK _ _ ⟨hS, ?_⟩
      clear hK K
      try simp only [Act.put, List.setIfInBounds_toArray, List.set_cons_zero, List.set_cons_succ]
      refine gs_run (i := 8) rfl (by kernel_rfl) (by rfl) (fun K hK => ?_)
      go_simp
      refine (ST.out _).mono ?_
      rintro e w' ⟨rfl, rfl⟩
      refine hK _ _ ⟨hS, ?_⟩
      clear hK K
      try simp only [Act.put, List.setIfInBounds_toArray, List.set_cons_zero, List.set_cons_succ]
      refine gs_run (i := 10) rfl (by kernel_rfl) (by rfl) (fun K hK => ?_)
      have hsF := infoTc own.size
      have hzF : zT.size = CF.size := by rw [own.size]; rfl
      have hoF := own.rd.one
      refine wp_store_row 26 (.tmp 3) (.tmp 16) rfl _ CF rfl rfl _ zT qz hsF hzF hoF ?_
      have qn := setRow_heap _ _ _ CF _ _ qz
      have hS := below_row hS GA0 CF
      have hF := below_row hF GAF CF
      refine hK _ _ ⟨hS, ?_⟩
      clear hK K
      obtain ⟨WS, hWS⟩ : ∃ W, W = World.setRow y2 y1.heap.size CF := ⟨_, rfl⟩
      rw [← hWS] at qn hS hF  ⊢
      clear hWS
      have HT := Lib.hid (show RdT WS CF lF vs from RF.out.below hF (Nat.le_refl _))
      have Q3 := Lib.hid qn
      clear qz qn hF own RF hsF hzF hoF GAF
      try simp only [Act.put, List.setIfInBounds_toArray, List.set_cons_zero, List.set_cons_succ]
      refine gs_take (i := 11) (d := (some 4)) (v := ?_) rfl rfl (by kernel_rfl) (fun _ _ _ h => h) (by rfl) hS (fun w' hb' => ?_) ?_
      rotate_left
      · (try go_simp); (try with_reducible rfl)
      try simp only [Act.put, List.setIfInBounds_toArray, List.set_cons_zero, List.set_cons_succ]
      refine gs_take (i := 12) (d := (some 5)) (v := ?_) rfl rfl (by kernel_rfl) (fun _ _ _ h => h) (by rfl) hS (fun w' hb' => ?_) ?_
      rotate_left
      · (try go_simp); (try with_reducible rfl)
      try simp only [Act.put, List.setIfInBounds_toArray, List.set_cons_zero, List.set_cons_succ]
      refine gs_done (by kernel_rfl) ?_
      have GAW : w.heap.size < y1.heap.size := by have := lt_of_block Q1.out; omega
      obtain ⟨ga, hga⟩ : ∃ ga, ga = y1.heap.size := ⟨_, rfl⟩
      rw [← hga] at GAW Q3 ⊢
      clear hga GA0
      have hsF := infoTc HT.out.size
      have BW := Lib.hid (chain BEL.out hS)
      have TS := Lib.hid (TAB.out.below BW.out)
      have C34S := Lib.hid (fun W (g : Below WS.heap.size WS W) => C34.out W (chain hS g))
      have h8 := Below.refl WS.heap.size WS
      clear PT FW C32 C33 C34 SF ST hS z0 z1 hs0
      have SC0 := fun W (g : Below WS.heap.size WS W) => scan_any CF lF vs fs ts m W (TS.out.below g) (HT.out.below g (Nat.le_refl _)) szF ff tt
      have BK0 := fun W (g : Below WS.heap.size WS W) => back_any CF lF vs fs ts m W (TS.out.below g) (HT.out.below g (Nat.le_refl _)) szF ff tt
      have CN0 := fun W (g : Below WS.heap.size WS W) => count11_any CF lF vs fs ts W (TS.out.below g) (HT.out.below g (Nat.le_refl _)) szF ff tt
      have WR0 := fun W (g : Below WS.heap.size WS W) => wrong_any CF lF vs fs ts W (TS.out.below g) (HT.out.below g (Nat.le_refl _)) szF lenF ff tt
      have AW := Lib.hid (fun W (g : Below WS.heap.size WS W) => awake11_any W (TS.out.below g))
      obtain ⟨SL, hSL⟩ : ∃ X, X = scL lF vs fs ts m := ⟨_, rfl⟩
      obtain ⟨BL, hBL⟩ : ∃ X, X = (scL lF vs fs ts 1024).reverse.take m.toNat := ⟨_, rfl⟩
      obtain ⟨nc, hnc⟩ : ∃ z : Int, z = ((scL lF vs fs ts 1024).length : Int) := ⟨_, rfl⟩
      obtain ⟨E, hE⟩ : ∃ X, X = ckE lF vs [fs, ts] := ⟨_, rfl⟩
      obtain ⟨ez, hez⟩ : ∃ z : Int, z = (E : Int) := ⟨_, rfl⟩
      rw [← hSL, ← hE, ← hez] at SC0
      rw [← hBL, ← hE, ← hez] at BK0
      rw [← hnc, ← hE, ← hez] at CN0
      rw [← hE, ← hez] at WR0
      have SC := Lib.hid SC0
      have BK := Lib.hid BK0
      have CN := Lib.hid CN0
      have WR := Lib.hid WR0
      have HSL := Lib.hid hSL
      have HBL := Lib.hid hBL
      have HNC := Lib.hid hnc
      have HE := Lib.hid hE
      have HEZ := Lib.hid hez
      clear SC0 BK0 CN0 WR0 hSL hBL hnc hE hez
      have q3 := Q3.out
      have c34 := C34S.out _ h8
      go_wp2_with ((with_reducible refine wpList_load_row (o := ⟨some 24, _, _, _, _, _⟩) rfl 26 (.tmp 3) rfl _ rfl _ CF (0, 0) _ q3 Tryd.underlying26 rfl hsF ?_))
      refine (SC.out _ h8).mono ?_
      rintro e v1 ⟨vL, rfl, ownL, g⟩
      obtain ⟨aL, kL, rfl, -, -, RL⟩ := RdK.open (OwnI.rd (w := v1) ownL)
      replace h8 := chain h8 g
      replace q3 := (h8.block _ (lt_of_block Q3.out)).trans Q3.out
      replace c34 := C34S.out _ h8
      clear g ownL
      go_wp2_with ((with_reducible refine wpList_load_row (o := ⟨some 33, _, _, _, _, _⟩) rfl 26 (.tmp 3) rfl _ rfl _ CF (0, 0) _ q3 Tryd.underlying26 rfl hsF ?_))
      refine (BK.out _ h8).mono ?_
      rintro e v2 ⟨vB, rfl, ownB, g⟩
      obtain ⟨aB, kB, rfl, -, -, RB⟩ := RdK.open (OwnI.rd (w := v2) ownB)
      replace h8 := chain h8 g
      replace q3 := (h8.block _ (lt_of_block Q3.out)).trans Q3.out
      replace RL := RdK.below RL g (Nat.le_refl _)
      clear g ownB c34
      go_wp2_with ((with_reducible refine wpList_load_row (o := ⟨some 42, _, _, _, _, _⟩) rfl 26 (.tmp 3) rfl _ rfl _ CF (0, 0) _ q3 Tryd.underlying26 rfl hsF ?_))
      refine (CN.out _ h8).mono ?_
      rintro e v3 ⟨rfl, g⟩
      replace h8 := chain h8 g
      replace q3 := (h8.block _ (lt_of_block Q3.out)).trans Q3.out
      replace RL := RdK.below RL g (Nat.le_refl _)
      replace RB := RdK.below RB g (Nat.le_refl _)
      clear g
      go_wp2_with ((with_reducible refine wpList_load_row (o := ⟨some 48, _, _, _, _, _⟩) rfl 26 (.tmp 3) rfl _ rfl _ CF (0, 0) _ q3 Tryd.underlying26 rfl hsF ?_))
      refine (WR.out _ h8).mono ?_
      rintro e v4 ⟨rfl, g⟩
      replace h8 := chain h8 g
      replace q3 := (h8.block _ (lt_of_block Q3.out)).trans Q3.out
      replace RL := RdK.below RL g (Nat.le_refl _)
      replace RB := RdK.below RB g (Nat.le_refl _)
      clear g SC BK CN WR
      by_cases hc : E = 0
      · have hmp : mayTs lF vs 16 = true ∧ patB fs = true ∧ patB ts = true := by
          have h0 := HE.out.symm.trans hc
          cases hm : mayTs lF vs 16 with
          | false => rw [ck_no hm] at h0; exact absurd h0 (by decide)
          | true =>
            cases hp : ([fs, ts] : List (List UInt8)).all patB with
            | true => exact ⟨rfl, by simpa using hp⟩
            | false => rw [ck_form hm hp] at h0; exact absurd h0 (by decide)
        obtain ⟨hmy, hpf, hpt⟩ := hmp
        have WH0 := fun W (g : Below WS.heap.size WS W) => whole_any CF lF vs fs ts W (TS.out.below g) (HT.out.below g (Nat.le_refl _)) szF lenF hmy hpf hpt ff tt
        obtain ⟨R, hR⟩ : ∃ L, L = rngL lF fs ts := ⟨_, rfl⟩
        obtain ⟨R2, hR2⟩ : ∃ L, L = R.reverse := ⟨_, rfl⟩
        have HR := Lib.hid (show R.length ≤ 1024 by rw [hR]; exact rng_len hmy _ _)
        have HL2 := Lib.hid (show R2.length = R.length by rw [hR2]; exact List.length_reverse)
        rw [← hR] at WH0
        have WH := Lib.hid WH0
        have s0 : scL lF vs fs ts 1024 = R := by rw [hR]; exact sc_full (HE.out.symm.trans hc)
        have e1 : SL = R.take m.toNat := by rw [HSL.out, hR]; unfold scL; rw [← HE.out, if_pos hc]
        have e2 : BL = R2.take m.toNat := by rw [HBL.out, s0, hR2]
        have e3 : nc = (R.length : Int) := by rw [HNC.out, s0]
        have HS := Lib.hid (show SL.length ≤ 1024 by rw [e1]; exact Nat.le_trans (take_len' _ _) HR.out)
        have HB := Lib.hid (show BL.length ≤ 1024 by rw [e2]; exact Nat.le_trans (take_len' _ _) (by rw [HL2.out]; exact HR.out))
        have E1 := Lib.hid e1
        have E2 := Lib.hid e2
        have HR2 := Lib.hid hR2
        have e5 : ez = 0 := by rw [HEZ.out, hc]; rfl
        have SAMEB : ∀ (W : World) (k : Nat), Below W.heap.size W (W.drewN k) := fun W k => below_drewN (Below.refl W.heap.size W)
        clear WH0 hR hR2 s0 e1 e2 HSL HBL HNC HE HEZ hc hmy hpf hpt
        subst e3
        subst e5
        go_wp2_with ((with_reducible refine wpList_load_row (o := ⟨some 84, _, _, _, _, _⟩) rfl 26 (.tmp 3) rfl _ rfl _ CF (0, 0) _ q3 Tryd.underlying26 rfl hsF ?_))
        refine (WH.out _ h8).mono ?_
        rintro e v5 ⟨vW, rfl, ownW, g⟩
        obtain ⟨aW, kW, rfl, -, -, RW⟩ := RdK.open (OwnI.rd (w := v5) ownW)
        replace h8 := chain h8 g
        replace RL := RdK.below RL g (Nat.le_refl _)
        replace RB := RdK.below RB g (Nat.le_refl _)
        clear g ownW q3
        go_wp2_with fail
        refine g_start (by kernel_rfl) ?_
        refine g_take (i := 0) (d := (some 88)) (v := ?_) rfl rfl (by kernel_rfl) (fun _ _ _ h => h) (by rfl) (fun w' hb' => ?_) ?_
        rotate_left
        · (try go_simp); (try with_reducible rfl)
        try simp only [Act.put, List.setIfInBounds_toArray, List.set_cons_zero, List.set_cons_succ]
        refine g_take (i := 1) (d := (some 89)) (v := ?_) rfl rfl (by kernel_rfl) (fun _ _ _ h => h) (by rfl) (fun w' hb' => ?_) ?_
        rotate_left
        · (try go_simp); (try with_reducible rfl)
        try simp only [Act.put, List.setIfInBounds_toArray, List.set_cons_zero, List.set_cons_succ]
        refine g_take (i := 2) (d := (some 90)) (v := ?_) rfl rfl (by kernel_rfl) (fun _ _ _ h => h) (by rfl) (fun w' hb' => ?_) ?_
        rotate_left
        · (try go_simp); (try with_reducible rfl)
        try simp only [Act.put, List.setIfInBounds_toArray, List.set_cons_zero, List.set_cons_succ]
        refine g_take (i := 3) (d := (some 91)) (v := ?_) rfl rfl (by kernel_rfl) (fun _ _ _ h => h) (by rfl) (fun w' hb' => ?_) ?_
        rotate_left
        · (have c34 := C34S.out _ (chain (Below.drew h8) hb')); (try go_simp); (try with_reducible rfl)
        try simp only [Act.put, List.setIfInBounds_toArray, List.set_cons_zero, List.set_cons_succ]
        refine g_run (i := 4) rfl (by kernel_rfl) (by rfl) (fun K hK => ?_)
        have bd := Below.drew (Below.refl v5.heap.size v5); replace h8 := chain h8 bd; replace RL := RdK.below RL bd (Nat.le_refl _); replace RB := RdK.below RB bd (Nat.le_refl _); replace RW := RdK.below RW bd (Nat.le_refl _); clear bd; go_simp; refine (head_any (.slice aW R.length kW) R m _ RW (by have := HR.out; omega)).mono ?_; rintro e w' ⟨⟨vH, rfl, RH⟩, rfl⟩; rw [← E1.out] at RH; obtain ⟨aH, kH, rfl, -, -, RH⟩ := RdK.open RH; refine hK _ _ ⟨Below.refl _ _, ?_⟩; clear hK K
        try simp only [Act.put, List.setIfInBounds_toArray, List.set_cons_zero, List.set_cons_succ]
        refine g_run (i := 5) rfl (by kernel_rfl) (by rfl) (fun K hK => ?_)
        go_simp; refine (refSame11_yes (.slice aL SL.length kL) (.slice aH SL.length kH) SL _ RL RH (by have := HS.out; omega)).mono ?_; rintro e w6 ⟨rfl, n1, hw⟩; have b1 : Below v5.drew.heap.size v5.drew w6 := (by rw [hw]; exact SAMEB _ n1); clear hw; replace h8 := chain h8 b1; replace RL := RdK.below RL b1 (Nat.le_refl _); replace RB := RdK.below RB b1 (Nat.le_refl _); replace RW := RdK.below RW b1 (Nat.le_refl _); refine hK _ _ ⟨b1, ?_⟩; clear hK K b1 RH
        try simp only [Act.put, List.setIfInBounds_toArray, List.set_cons_zero, List.set_cons_succ]
        refine g_take (i := 6) (d := (some 94)) (v := ?_) rfl rfl (by kernel_rfl) (fun _ _ _ h => h) (by rfl) (fun w' hb' => ?_) ?_
        rotate_left
        · (try go_simp); (try with_reducible rfl)
        try simp only [Act.put, List.setIfInBounds_toArray, List.set_cons_zero, List.set_cons_succ]
        refine g_take (i := 7) (d := (some 95)) (v := ?_) rfl rfl (by kernel_rfl) (fun _ _ _ h => h) (by rfl) (fun w' hb' => ?_) ?_
        rotate_left
        · (try go_simp); (try with_reducible rfl)
        try simp only [Act.put, List.setIfInBounds_toArray, List.set_cons_zero, List.set_cons_succ]
        refine g_take (i := 8) (d := (some 96)) (v := ?_) rfl rfl (by kernel_rfl) (fun _ _ _ h => h) (by rfl) (fun w' hb' => ?_) ?_
        rotate_left
        · (try go_simp); (try with_reducible rfl)
        try simp only [Act.put, List.setIfInBounds_toArray, List.set_cons_zero, List.set_cons_succ]
        refine g_take (i := 10) (d := (some 98)) (v := ?_) rfl rfl (by kernel_rfl) (fun _ _ _ h => h) (by rfl) (fun w' hb' => ?_) ?_
        rotate_left
        · (try go_simp); (try with_reducible rfl)
        try simp only [Act.put, List.setIfInBounds_toArray, List.set_cons_zero, List.set_cons_succ]
        refine g_take (i := 11) (d := (some 99)) (v := ?_) rfl rfl (by kernel_rfl) (fun _ _ _ h => h) (by rfl) (fun w' hb' => ?_) ?_
        rotate_left
        · (have c34 := C34S.out _ (chain h8 hb')); (try go_simp); (try with_reducible rfl)
        try simp only [Act.put, List.setIfInBounds_toArray, List.set_cons_zero, List.set_cons_succ]
        refine g_run (i := 9) rfl (by kernel_rfl) (by rfl) (fun K hK => ?_)
        go_simp; refine (turned_any (.slice aW R.length kW) R _ RW (by have := HR.out; omega)).mono ?_; rintro e u7 ⟨vT, rfl, ownT, g7⟩; rw [← HR2.out] at ownT; obtain ⟨aT, kT, rfl, -, -, RT⟩ := RdK.open (OwnI.rd (w := u7) ownT); replace h8 := chain h8 g7; replace RL := RdK.below RL g7 (Nat.le_refl _); replace RB := RdK.below RB g7 (Nat.le_refl _); replace RW := RdK.below RW g7 (Nat.le_refl _); refine hK _ _ ⟨g7, ?_⟩; clear hK K g7 ownT
        try simp only [Act.put, List.setIfInBounds_toArray, List.set_cons_zero, List.set_cons_succ]
        refine g_run (i := 12) rfl (by kernel_rfl) (by rfl) (fun K hK => ?_)
        go_simp; refine (head_any (.slice aT R2.length kT) R2 m _ RT (by have := HR.out; have := HL2.out; omega)).mono ?_; rintro e w' ⟨⟨vG, rfl, RG⟩, rfl⟩; rw [← E2.out] at RG; obtain ⟨aG, kG, rfl, -, -, RG⟩ := RdK.open RG; refine hK _ _ ⟨Below.refl _ _, ?_⟩; clear hK K
        try simp only [Act.put, List.setIfInBounds_toArray, List.set_cons_zero, List.set_cons_succ]
        refine g_run (i := 13) rfl (by kernel_rfl) (by rfl) (fun K hK => ?_)
        go_simp; refine (refSame11_yes (.slice aB BL.length kB) (.slice aG BL.length kG) BL _ RB RG (by have := HB.out; omega)).mono ?_; rintro e w8 ⟨rfl, n2, hw⟩; have b1 : Below u7.heap.size u7 w8 := (by rw [hw]; exact SAMEB _ n2); clear hw; replace h8 := chain h8 b1; replace RL := RdK.below RL b1 (Nat.le_refl _); replace RB := RdK.below RB b1 (Nat.le_refl _); replace RW := RdK.below RW b1 (Nat.le_refl _); refine hK _ _ ⟨b1, ?_⟩; clear hK K b1 RG RT
        try simp only [Act.put, List.setIfInBounds_toArray, List.set_cons_zero, List.set_cons_succ]
        refine g_take (i := 14) (d := (some 102)) (v := ?_) rfl rfl (by kernel_rfl) (fun _ _ _ h => h) (by rfl) (fun w' hb' => ?_) ?_
        rotate_left
        · (try go_simp); (try with_reducible rfl)
        try simp only [Act.put, List.setIfInBounds_toArray, List.set_cons_zero, List.set_cons_succ]
        refine g_take (i := 15) (d := (some 103)) (v := ?_) rfl rfl (by kernel_rfl) (fun _ _ _ h => h) (by rfl) (fun w' hb' => ?_) ?_
        rotate_left
        · (try go_simp); (try with_reducible rfl)
        try simp only [Act.put, List.setIfInBounds_toArray, List.set_cons_zero, List.set_cons_succ]
        refine g_take (i := 16) (d := (some 104)) (v := ?_) rfl rfl (by kernel_rfl) (fun _ _ _ h => h) (by rfl) (fun w' hb' => ?_) ?_
        rotate_left
        · (try go_simp); (try with_reducible rfl)
        try simp only [Act.put, List.setIfInBounds_toArray, List.set_cons_zero, List.set_cons_succ]
        refine g_take (i := 17) (d := (some 105)) (v := ?_) rfl rfl (by kernel_rfl) (fun _ _ _ h => h) (by rfl) (fun w' hb' => ?_) ?_
        rotate_left
        · (try go_simp); (try with_reducible rfl)
        try simp only [Act.put, List.setIfInBounds_toArray, List.set_cons_zero, List.set_cons_succ]
        refine g_take (i := 18) (d := (some 106)) (v := ?_) rfl rfl (by kernel_rfl) (fun _ _ _ h => h) (by rfl) (fun w' hb' => ?_) ?_
        rotate_left
        · (try go_simp); (try with_reducible rfl)
        try simp only [Act.put, List.setIfInBounds_toArray, List.set_cons_zero, List.set_cons_succ]
        refine g_take (i := 19) (d := (some 107)) (v := ?_) rfl rfl (by kernel_rfl) (fun _ _ _ h => h) (by rfl) (fun w' hb' => ?_) ?_
        rotate_left
        · (try go_simp); (try with_reducible rfl)
        try simp only [Act.put, List.setIfInBounds_toArray, List.set_cons_zero, List.set_cons_succ]
        refine g_take (i := 20) (d := (some 108)) (v := ?_) rfl rfl (by kernel_rfl) (fun _ _ _ h => h) (by rfl) (fun w' hb' => ?_) ?_
        rotate_left
        · (try go_simp); (try with_reducible rfl)
        try simp only [Act.put, List.setIfInBounds_toArray, List.set_cons_zero, List.set_cons_succ]
        refine g_take (i := 21) (d := (some 109)) (v := ?_) rfl rfl (by kernel_rfl) (fun _ _ _ h => h) (by rfl) (fun w' hb' => ?_) ?_
        rotate_left
        · (try go_simp); (try with_reducible rfl)
        try simp only [Act.put, List.setIfInBounds_toArray, List.set_cons_zero, List.set_cons_succ]
        refine g_take (i := 22) (d := (some 110)) (v := ?_) rfl rfl (by kernel_rfl) (fun _ _ _ h => h) (by rfl) (fun w' hb' => ?_) ?_
        rotate_left
        · (try go_simp); (try with_reducible rfl)
        try simp only [Act.put, List.setIfInBounds_toArray, List.set_cons_zero, List.set_cons_succ]
        refine g_take (i := 23) (d := (some 111)) (v := ?_) rfl rfl (by kernel_rfl) (fun _ _ _ h => h) (by rfl) (fun w' hb' => ?_) ?_
        rotate_left
        · (try go_simp); (try with_reducible rfl)
        try simp only [Act.put, List.setIfInBounds_toArray, List.set_cons_zero, List.set_cons_succ]
        refine g_take (i := 24) (d := (some 112)) (v := ?_) rfl rfl (by kernel_rfl) (fun _ _ _ h => h) (by rfl) (fun w' hb' => ?_) ?_
        rotate_left
        · (try go_simp); (try with_reducible rfl)
        try simp only [Act.put, List.setIfInBounds_toArray, List.set_cons_zero, List.set_cons_succ]
        refine g_take (i := 25) (d := (some 113)) (v := ?_) rfl rfl (by kernel_rfl) (fun _ _ _ h => h) (by rfl) (fun w' hb' => ?_) ?_
        rotate_left
        · (try go_simp); (try with_reducible rfl)
        try simp only [Act.put, List.setIfInBounds_toArray, List.set_cons_zero, List.set_cons_succ]
        refine g_take (i := 26) (d := (some 114)) (v := ?_) rfl rfl (by kernel_rfl) (fun _ _ _ h => h) (by rfl) (fun w' hb' => ?_) ?_
        rotate_left
        · (try go_simp); (try with_reducible rfl)
        try simp only [Act.put, List.setIfInBounds_toArray, List.set_cons_zero, List.set_cons_succ]
        refine g_take (i := 27) (d := (some 115)) (v := ?_) rfl rfl (by kernel_rfl) (fun _ _ _ h => h) (by rfl) (fun w' hb' => ?_) ?_
        rotate_left
        · (try go_simp); (try with_reducible rfl)
        try simp only [Act.put, List.setIfInBounds_toArray, List.set_cons_zero, List.set_cons_succ]
        refine g_take (i := 28) (d := (some 116)) (v := ?_) rfl rfl (by kernel_rfl) (fun _ _ _ h => h) (by rfl) (fun w' hb' => ?_) ?_
        rotate_left
        · (try go_simp); (try with_reducible rfl)
        try simp only [Act.put, List.setIfInBounds_toArray, List.set_cons_zero, List.set_cons_succ]
        refine g_take (i := 29) (d := (some 117)) (v := ?_) rfl rfl (by kernel_rfl) (fun _ _ _ h => h) (by rfl) (fun w' hb' => ?_) ?_
        rotate_left
        · (try go_simp); (try with_reducible rfl)
        try simp only [Act.put, List.setIfInBounds_toArray, List.set_cons_zero, List.set_cons_succ]
        refine g_take (i := 30) (d := (some 118)) (v := ?_) rfl rfl (by kernel_rfl) (fun _ _ _ h => h) (by rfl) (fun w' hb' => ?_) ?_
        rotate_left
        · (try go_simp); (try with_reducible rfl)
        try simp only [Act.put, List.setIfInBounds_toArray, List.set_cons_zero, List.set_cons_succ]
        refine g_take (i := 31) (d := (some 119)) (v := ?_) rfl rfl (by kernel_rfl) (fun _ _ _ h => h) (by rfl) (fun w' hb' => ?_) ?_
        rotate_left
        · (try go_simp); (try with_reducible rfl)
        try simp only [Act.put, List.setIfInBounds_toArray, List.set_cons_zero, List.set_cons_succ]
        refine g_take (i := 32) (d := (some 120)) (v := ?_) rfl rfl (by kernel_rfl) (fun _ _ _ h => h) (by rfl) (fun w' hb' => ?_) ?_
        rotate_left
        · (try go_simp); (try with_reducible rfl)
        try simp only [Act.put, List.setIfInBounds_toArray, List.set_cons_zero, List.set_cons_succ]
        refine g_take (i := 33) (d := (some 121)) (v := ?_) rfl rfl (by kernel_rfl) (fun _ _ _ h => h) (by rfl) (fun w' hb' => ?_) ?_
        rotate_left
        · (try go_simp); (try with_reducible rfl)
        try simp only [Act.put, List.setIfInBounds_toArray, List.set_cons_zero, List.set_cons_succ]
        refine g_run (i := 34) rfl (by kernel_rfl) (by rfl) (fun K hK => ?_)
        go_simp; refine (AW.out _ h8).mono ?_; rintro e uz ⟨rfl, gz⟩; replace h8 := chain h8 gz; refine hK _ _ ⟨gz, ?_⟩; clear hK K gz
        try simp only [Act.put, List.setIfInBounds_toArray, List.set_cons_zero, List.set_cons_succ]
        refine g_take (i := 35) (d := (some 123)) (v := ?_) rfl rfl (by kernel_rfl) (fun _ _ _ h => h) (by rfl) (fun w' hb' => ?_) ?_
        rotate_left
        · (try go_simp); (try with_reducible rfl)
        try simp only [Act.put, List.setIfInBounds_toArray, List.set_cons_zero, List.set_cons_succ]
        refine g_take (i := 36) (d := (some 2)) (v := ?_) rfl rfl (by kernel_rfl) (fun _ _ _ h => h) (by rfl) (fun w' hb' => ?_) ?_
        rotate_left
        · (try go_simp); (try with_reducible rfl)
        try simp only [Act.put, List.setIfInBounds_toArray, List.set_cons_zero, List.set_cons_succ]
        refine g_done (by kernel_rfl) ?_
        go_wp2_with fail
        go_ret
        exact ⟨rfl, chain BW.out h8⟩
      · have e1 : SL.length = 0 := by rw [HSL.out]; unfold scL; rw [← HE.out, if_neg hc]; rfl
        have e2 : BL.length = 0 := by rw [HBL.out, sc_none (by rw [← HE.out]; exact hc)]; simp
        have e3 : nc = 0 := by rw [HNC.out, sc_none (by rw [← HE.out]; exact hc)]; rfl
        have d1 : (ez != 0) = true := by rw [HEZ.out]; simp; omega
        rw [e1, e2, e3]
        clear HSL HBL HNC HE HEZ hc e1 e2 e3 RL RB q3
        go_wp2_with ((with_reducible refine (AW.out _ h8).mono ?_); rintro e uz ⟨rfl, gz⟩; (replace h8 := chain h8 gz))
        go_ret
        exact ⟨rfl, chain BW.out h8⟩
  · skip
    go_simp
    have qz : ((World.alloc W0 (.cells zT 26)).drew).heap[W0.heap.size]? = some (.cells zT 26 (0, 0)) := heap_alloc_new W0 (.cells zT 26)
    have GA0 : W0.heap.size ≤ W0.heap.size := hS.size
    have g := (Below.refl W0.drew.heap.size W0.drew).alloc (Nat.le_refl _) (.cells zT 26)
    have hS : Below W0.heap.size W0 ((World.alloc W0 (.cells zT 26)).drew) := Below.drew ((Below.refl W0.heap.size W0).alloc (Nat.le_refl _) _)
    refine hK _ _ ⟨hS, ?_⟩
    clear hK K g
    obtain ⟨y1, hy⟩ : ∃ W, W = (World.alloc W0 (.cells zT 26)).drew := ⟨_, rfl⟩
    rw [← hy] at qz hS ⊢
    clear hy
    try simp only [Act.put, List.setIfInBounds_toArray, List.set_cons_zero, List.set_cons_succ]
    refine gs_run (i := 2) rfl (by kernel_rfl) (by rfl) (fun K hK => ?_)
    go_simp
    have bF := lt_of_block qz
    refine (FW.out _ hS).mono ?_
    rintro e y2 ⟨CF, rfl, own, g⟩
    have hS := chain hS g
    have qz := (g.block _ (lt_of_block qz)).trans qz
    have hF := Below.refl y2.heap.size y2
    have RF := Lib.hid own.rd
    refine hK _ _ ⟨hS, ?_⟩
    clear hK K g
    try simp only [Act.put, List.setIfInBounds_toArray, List.set_cons_zero, List.set_cons_succ]
    refine gs_run (i := 5) rfl (by kernel_rfl) (by rfl) (fun K hK => ?_)
    go_simp
    refine (SF.out _).mono ?_
    rintro e w' ⟨rfl, rfl⟩
    refine hK _ _ ⟨hS, ?_⟩
    clear hK K
    try simp only [Act.put, List.setIfInBounds_toArray, List.set_cons_zero, List.set_cons_succ]
    refine gs_run (i := 8) rfl (by kernel_rfl) (by rfl) (fun K hK => ?_)
    go_simp
    refine (ST.out _).mono ?_
    rintro e w' ⟨rfl, rfl⟩
    refine hK _ _ ⟨hS, ?_⟩
    clear hK K
    try simp only [Act.put, List.setIfInBounds_toArray, List.set_cons_zero, List.set_cons_succ]
    refine gs_run (i := 10) rfl (by kernel_rfl) (by rfl) (fun K hK => ?_)
    have hsF := infoTc own.size
    have hzF : zT.size = CF.size := by rw [own.size]; rfl
    have hoF := own.rd.one
    refine wp_store_row 26 (.tmp 3) (.tmp 16) rfl _ CF rfl rfl _ zT qz hsF hzF hoF ?_
    have qn := setRow_heap _ _ _ CF _ _ qz
    have hS := below_row hS GA0 CF
    have own := own.moved (w' := World.setRow y2 W0.heap.size CF) (fun k hk _ => by rw [setRow_other _ _ _ _ (by omega)])
    refine hK _ _ ⟨hS, ?_⟩
    clear hK K
    obtain ⟨WS, hWS⟩ : ∃ W, W = World.setRow y2 W0.heap.size CF := ⟨_, rfl⟩
    rw [← hWS] at qn hS own  ⊢
    clear hWS
    have HT := Lib.hid (show RdT WS CF lF vs from own.rd)
    have Q3 := Lib.hid qn
    clear qz qn hF own RF hsF hzF hoF bF
    try simp only [Act.put, List.setIfInBounds_toArray, List.set_cons_zero, List.set_cons_succ]
    refine gs_take (i := 11) (d := (some 4)) (v := ?_) rfl rfl (by kernel_rfl) (fun _ _ _ h => h) (by rfl) hS (fun w' hb' => ?_) ?_
    rotate_left
    · (try go_simp); (try with_reducible rfl)
    try simp only [Act.put, List.setIfInBounds_toArray, List.set_cons_zero, List.set_cons_succ]
    refine gs_take (i := 12) (d := (some 5)) (v := ?_) rfl rfl (by kernel_rfl) (fun _ _ _ h => h) (by rfl) hS (fun w' hb' => ?_) ?_
    rotate_left
    · (try go_simp); (try with_reducible rfl)
    try simp only [Act.put, List.setIfInBounds_toArray, List.set_cons_zero, List.set_cons_succ]
    refine gs_done (by kernel_rfl) ?_
    have GAW : w.heap.size < W0.heap.size := by have := lt_of_block Q1.out; omega
    obtain ⟨ga, hga⟩ : ∃ ga, ga = W0.heap.size := ⟨_, rfl⟩
    rw [← hga] at GAW Q3 ⊢
    clear hga GA0
    have hsF := infoTc HT.out.size
    have BW := Lib.hid (chain BEL.out hS)
    have TS := Lib.hid (TAB.out.below BW.out)
    have C34S := Lib.hid (fun W (g : Below WS.heap.size WS W) => C34.out W (chain hS g))
    have h8 := Below.refl WS.heap.size WS
    clear PT FW C32 C33 C34 SF ST hS z0 z1 hs0
    have SC0 := fun W (g : Below WS.heap.size WS W) => scan_any CF lF vs fs ts m W (TS.out.below g) (HT.out.below g (Nat.le_refl _)) szF ff tt
    have BK0 := fun W (g : Below WS.heap.size WS W) => back_any CF lF vs fs ts m W (TS.out.below g) (HT.out.below g (Nat.le_refl _)) szF ff tt
    have CN0 := fun W (g : Below WS.heap.size WS W) => count11_any CF lF vs fs ts W (TS.out.below g) (HT.out.below g (Nat.le_refl _)) szF ff tt
    have WR0 := fun W (g : Below WS.heap.size WS W) => wrong_any CF lF vs fs ts W (TS.out.below g) (HT.out.below g (Nat.le_refl _)) szF lenF ff tt
    have AW := Lib.hid (fun W (g : Below WS.heap.size WS W) => awake11_any W (TS.out.below g))
    obtain ⟨SL, hSL⟩ : ∃ X, X = scL lF vs fs ts m := ⟨_, rfl⟩
    obtain ⟨BL, hBL⟩ : ∃ X, X = (scL lF vs fs ts 1024).reverse.take m.toNat := ⟨_, rfl⟩
    obtain ⟨nc, hnc⟩ : ∃ z : Int, z = ((scL lF vs fs ts 1024).length : Int) := ⟨_, rfl⟩
    obtain ⟨E, hE⟩ : ∃ X, X = ckE lF vs [fs, ts] := ⟨_, rfl⟩
    obtain ⟨ez, hez⟩ : ∃ z : Int, z = (E : Int) := ⟨_, rfl⟩
    rw [← hSL, ← hE, ← hez] at SC0
    rw [← hBL, ← hE, ← hez] at BK0
    rw [← hnc, ← hE, ← hez] at CN0
    rw [← hE, ← hez] at WR0
    have SC := Lib.hid SC0
    have BK := Lib.hid BK0
    have CN := Lib.hid CN0
    have WR := Lib.hid WR0
    have HSL := Lib.hid hSL
    have HBL := Lib.hid hBL
    have HNC := Lib.hid hnc
    have HE := Lib.hid hE
    have HEZ := Lib.hid hez
    clear SC0 BK0 CN0 WR0 hSL hBL hnc hE hez
    have q3 := Q3.out
    have c34 := C34S.out _ h8
    go_wp2_with ((with_reducible refine wpList_load_row (o := ⟨some 24, _, _, _, _, _⟩) rfl 26 (.tmp 3) rfl _ rfl _ CF (0, 0) _ q3 Tryd.underlying26 rfl hsF ?_))
    refine (SC.out _ h8).mono ?_
    rintro e v1 ⟨vL, rfl, ownL, g⟩
    obtain ⟨aL, kL, rfl, -, -, RL⟩ := RdK.open (OwnI.rd (w := v1) ownL)
    replace h8 := chain h8 g
    replace q3 := (h8.block _ (lt_of_block Q3.out)).trans Q3.out
    replace c34 := C34S.out _ h8
    clear g ownL
    go_wp2_with ((with_reducible refine wpList_load_row (o := ⟨some 33, _, _, _, _, _⟩) rfl 26 (.tmp 3) rfl _ rfl _ CF (0, 0) _ q3 Tryd.underlying26 rfl hsF ?_))
    refine (BK.out _ h8).mono ?_
    rintro e v2 ⟨vB, rfl, ownB, g⟩
    obtain ⟨aB, kB, rfl, -, -, RB⟩ := RdK.open (OwnI.rd (w := v2) ownB)
    replace h8 := chain h8 g
    replace q3 := (h8.block _ (lt_of_block Q3.out)).trans Q3.out
    replace RL := RdK.below RL g (Nat.le_refl _)
    clear g ownB c34
    go_wp2_with ((with_reducible refine wpList_load_row (o := ⟨some 42, _, _, _, _, _⟩) rfl 26 (.tmp 3) rfl _ rfl _ CF (0, 0) _ q3 Tryd.underlying26 rfl hsF ?_))
    refine (CN.out _ h8).mono ?_
    rintro e v3 ⟨rfl, g⟩
    replace h8 := chain h8 g
    replace q3 := (h8.block _ (lt_of_block Q3.out)).trans Q3.out
    replace RL := RdK.below RL g (Nat.le_refl _)
    replace RB := RdK.below RB g (Nat.le_refl _)
    clear g
    go_wp2_with ((with_reducible refine wpList_load_row (o := ⟨some 48, _, _, _, _, _⟩) rfl 26 (.tmp 3) rfl _ rfl _ CF (0, 0) _ q3 Tryd.underlying26 rfl hsF ?_))
    refine (WR.out _ h8).mono ?_
    rintro e v4 ⟨rfl, g⟩
    replace h8 := chain h8 g
    replace q3 := (h8.block _ (lt_of_block Q3.out)).trans Q3.out
    replace RL := RdK.below RL g (Nat.le_refl _)
    replace RB := RdK.below RB g (Nat.le_refl _)
    clear g SC BK CN WR
    by_cases hc : E = 0
    · have hmp : mayTs lF vs 16 = true ∧ patB fs = true ∧ patB ts = true := by
        have h0 := HE.out.symm.trans hc
        cases hm : mayTs lF vs 16 with
        | false => rw [ck_no hm] at h0; exact absurd h0 (by decide)
        | true =>
          cases hp : ([fs, ts] : List (List UInt8)).all patB with
          | true => exact ⟨rfl, by simpa using hp⟩
          | false => rw [ck_form hm hp] at h0; exact absurd h0 (by decide)
      obtain ⟨hmy, hpf, hpt⟩ := hmp
      have WH0 := fun W (g : Below WS.heap.size WS W) => whole_any CF lF vs fs ts W (TS.out.below g) (HT.out.below g (Nat.le_refl _)) szF lenF hmy hpf hpt ff tt
      obtain ⟨R, hR⟩ : ∃ L, L = rngL lF fs ts := ⟨_, rfl⟩
      obtain ⟨R2, hR2⟩ : ∃ L, L = R.reverse := ⟨_, rfl⟩
      have HR := Lib.hid (show R.length ≤ 1024 by rw [hR]; exact rng_len hmy _ _)
      have HL2 := Lib.hid (show R2.length = R.length by rw [hR2]; exact List.length_reverse)
      rw [← hR] at WH0
      have WH := Lib.hid WH0
      have s0 : scL lF vs fs ts 1024 = R := by rw [hR]; exact sc_full (HE.out.symm.trans hc)
      have e1 : SL = R.take m.toNat := by rw [HSL.out, hR]; unfold scL; rw [← HE.out, if_pos hc]
      have e2 : BL = R2.take m.toNat := by rw [HBL.out, s0, hR2]
      have e3 : nc = (R.length : Int) := by rw [HNC.out, s0]
      have HS := Lib.hid (show SL.length ≤ 1024 by rw [e1]; exact Nat.le_trans (take_len' _ _) HR.out)
      have HB := Lib.hid (show BL.length ≤ 1024 by rw [e2]; exact Nat.le_trans (take_len' _ _) (by rw [HL2.out]; exact HR.out))
      have E1 := Lib.hid e1
      have E2 := Lib.hid e2
      have HR2 := Lib.hid hR2
      have e5 : ez = 0 := by rw [HEZ.out, hc]; rfl
      have SAMEB : ∀ (W : World) (k : Nat), Below W.heap.size W (W.drewN k) := fun W k => below_drewN (Below.refl W.heap.size W)
      clear WH0 hR hR2 s0 e1 e2 HSL HBL HNC HE HEZ hc hmy hpf hpt
      subst e3
      subst e5
      go_wp2_with ((with_reducible refine wpList_load_row (o := ⟨some 84, _, _, _, _, _⟩) rfl 26 (.tmp 3) rfl _ rfl _ CF (0, 0) _ q3 Tryd.underlying26 rfl hsF ?_))
      refine (WH.out _ h8).mono ?_
      rintro e v5 ⟨vW, rfl, ownW, g⟩
      obtain ⟨aW, kW, rfl, -, -, RW⟩ := RdK.open (OwnI.rd (w := v5) ownW)
      replace h8 := chain h8 g
      replace RL := RdK.below RL g (Nat.le_refl _)
      replace RB := RdK.below RB g (Nat.le_refl _)
      clear g ownW q3
      go_wp2_with fail
      refine g_start (by kernel_rfl) ?_
      refine g_take (i := 0) (d := (some 88)) (v := ?_) rfl rfl (by kernel_rfl) (fun _ _ _ h => h) (by rfl) (fun w' hb' => ?_) ?_
      rotate_left
      · (try go_simp); (try with_reducible rfl)
      try simp only [Act.put, List.setIfInBounds_toArray, List.set_cons_zero, List.set_cons_succ]
      refine g_take (i := 1) (d := (some 89)) (v := ?_) rfl rfl (by kernel_rfl) (fun _ _ _ h => h) (by rfl) (fun w' hb' => ?_) ?_
      rotate_left
      · (try go_simp); (try with_reducible rfl)
      try simp only [Act.put, List.setIfInBounds_toArray, List.set_cons_zero, List.set_cons_succ]
      refine g_take (i := 2) (d := (some 90)) (v := ?_) rfl rfl (by kernel_rfl) (fun _ _ _ h => h) (by rfl) (fun w' hb' => ?_) ?_
      rotate_left
      · (try go_simp); (try with_reducible rfl)
      try simp only [Act.put, List.setIfInBounds_toArray, List.set_cons_zero, List.set_cons_succ]
      refine g_take (i := 3) (d := (some 91)) (v := ?_) rfl rfl (by kernel_rfl) (fun _ _ _ h => h) (by rfl) (fun w' hb' => ?_) ?_
      rotate_left
      · (have c34 := C34S.out _ (chain (Below.drew h8) hb')); (try go_simp); (try with_reducible rfl)
      try simp only [Act.put, List.setIfInBounds_toArray, List.set_cons_zero, List.set_cons_succ]
      refine g_run (i := 4) rfl (by kernel_rfl) (by rfl) (fun K hK => ?_)
      have bd := Below.drew (Below.refl v5.heap.size v5); replace h8 := chain h8 bd; replace RL := RdK.below RL bd (Nat.le_refl _); replace RB := RdK.below RB bd (Nat.le_refl _); replace RW := RdK.below RW bd (Nat.le_refl _); clear bd; go_simp; refine (head_any (.slice aW R.length kW) R m _ RW (by have := HR.out; omega)).mono ?_; rintro e w' ⟨⟨vH, rfl, RH⟩, rfl⟩; rw [← E1.out] at RH; obtain ⟨aH, kH, rfl, -, -, RH⟩ := RdK.open RH; refine hK _ _ ⟨Below.refl _ _, ?_⟩; clear hK K
      try simp only [Act.put, List.setIfInBounds_toArray, List.set_cons_zero, List.set_cons_succ]
      refine g_run (i := 5) rfl (by kernel_rfl) (by rfl) (fun K hK => ?_)
      go_simp; refine (refSame11_yes (.slice aL SL.length kL) (.slice aH SL.length kH) SL _ RL RH (by have := HS.out; omega)).mono ?_; rintro e w6 ⟨rfl, n1, hw⟩; have b1 : Below v5.drew.heap.size v5.drew w6 := (by rw [hw]; exact SAMEB _ n1); clear hw; replace h8 := chain h8 b1; replace RL := RdK.below RL b1 (Nat.le_refl _); replace RB := RdK.below RB b1 (Nat.le_refl _); replace RW := RdK.below RW b1 (Nat.le_refl _); refine hK _ _ ⟨b1, ?_⟩; clear hK K b1 RH
      try simp only [Act.put, List.setIfInBounds_toArray, List.set_cons_zero, List.set_cons_succ]
      refine g_take (i := 6) (d := (some 94)) (v := ?_) rfl rfl (by kernel_rfl) (fun _ _ _ h => h) (by rfl) (fun w' hb' => ?_) ?_
      rotate_left
      · (try go_simp); (try with_reducible rfl)
      try simp only [Act.put, List.setIfInBounds_toArray, List.set_cons_zero, List.set_cons_succ]
      refine g_take (i := 7) (d := (some 95)) (v := ?_) rfl rfl (by kernel_rfl) (fun _ _ _ h => h) (by rfl) (fun w' hb' => ?_) ?_
      rotate_left
      · (try go_simp); (try with_reducible rfl)
      try simp only [Act.put, List.setIfInBounds_toArray, List.set_cons_zero, List.set_cons_succ]
      refine g_take (i := 8) (d := (some 96)) (v := ?_) rfl rfl (by kernel_rfl) (fun _ _ _ h => h) (by rfl) (fun w' hb' => ?_) ?_
      rotate_left
      · (try go_simp); (try with_reducible rfl)
      try simp only [Act.put, List.setIfInBounds_toArray, List.set_cons_zero, List.set_cons_succ]
      refine g_take (i := 10) (d := (some 98)) (v := ?_) rfl rfl (by kernel_rfl) (fun _ _ _ h => h) (by rfl) (fun w' hb' => ?_) ?_
      rotate_left
      · (try go_simp); (try with_reducible rfl)
      try simp only [Act.put, List.setIfInBounds_toArray, List.set_cons_zero, List.set_cons_succ]
      refine g_take (i := 11) (d := (some 99)) (v := ?_) rfl rfl (by kernel_rfl) (fun _ _ _ h => h) (by rfl) (fun w' hb' => ?_) ?_
      rotate_left
      · (have c34 := C34S.out _ (chain h8 hb')); (try go_simp); (try with_reducible rfl)
      try simp only [Act.put, List.setIfInBounds_toArray, List.set_cons_zero, List.set_cons_succ]
      refine g_run (i := 9) rfl (by kernel_rfl) (by rfl) (fun K hK => ?_)
      go_simp; refine (turned_any (.slice aW R.length kW) R _ RW (by have := HR.out; omega)).mono ?_; rintro e u7 ⟨vT, rfl, ownT, g7⟩; rw [← HR2.out] at ownT; obtain ⟨aT, kT, rfl, -, -, RT⟩ := RdK.open (OwnI.rd (w := u7) ownT); replace h8 := chain h8 g7; replace RL := RdK.below RL g7 (Nat.le_refl _); replace RB := RdK.below RB g7 (Nat.le_refl _); replace RW := RdK.below RW g7 (Nat.le_refl _); refine hK _ _ ⟨g7, ?_⟩; clear hK K g7 ownT
      try simp only [Act.put, List.setIfInBounds_toArray, List.set_cons_zero, List.set_cons_succ]
      refine g_run (i := 12) rfl (by kernel_rfl) (by rfl) (fun K hK => ?_)
      go_simp; refine (head_any (.slice aT R2.length kT) R2 m _ RT (by have := HR.out; have := HL2.out; omega)).mono ?_; rintro e w' ⟨⟨vG, rfl, RG⟩, rfl⟩; rw [← E2.out] at RG; obtain ⟨aG, kG, rfl, -, -, RG⟩ := RdK.open RG; refine hK _ _ ⟨Below.refl _ _, ?_⟩; clear hK K
      try simp only [Act.put, List.setIfInBounds_toArray, List.set_cons_zero, List.set_cons_succ]
      refine g_run (i := 13) rfl (by kernel_rfl) (by rfl) (fun K hK => ?_)
      go_simp; refine (refSame11_yes (.slice aB BL.length kB) (.slice aG BL.length kG) BL _ RB RG (by have := HB.out; omega)).mono ?_; rintro e w8 ⟨rfl, n2, hw⟩; have b1 : Below u7.heap.size u7 w8 := (by rw [hw]; exact SAMEB _ n2); clear hw; replace h8 := chain h8 b1; replace RL := RdK.below RL b1 (Nat.le_refl _); replace RB := RdK.below RB b1 (Nat.le_refl _); replace RW := RdK.below RW b1 (Nat.le_refl _); refine hK _ _ ⟨b1, ?_⟩; clear hK K b1 RG RT
      try simp only [Act.put, List.setIfInBounds_toArray, List.set_cons_zero, List.set_cons_succ]
      refine g_take (i := 14) (d := (some 102)) (v := ?_) rfl rfl (by kernel_rfl) (fun _ _ _ h => h) (by rfl) (fun w' hb' => ?_) ?_
      rotate_left
      · (try go_simp); (try with_reducible rfl)
      try simp only [Act.put, List.setIfInBounds_toArray, List.set_cons_zero, List.set_cons_succ]
      refine g_take (i := 15) (d := (some 103)) (v := ?_) rfl rfl (by kernel_rfl) (fun _ _ _ h => h) (by rfl) (fun w' hb' => ?_) ?_
      rotate_left
      · (try go_simp); (try with_reducible rfl)
      try simp only [Act.put, List.setIfInBounds_toArray, List.set_cons_zero, List.set_cons_succ]
      refine g_take (i := 16) (d := (some 104)) (v := ?_) rfl rfl (by kernel_rfl) (fun _ _ _ h => h) (by rfl) (fun w' hb' => ?_) ?_
      rotate_left
      · (try go_simp); (try with_reducible rfl)
      try simp only [Act.put, List.setIfInBounds_toArray, List.set_cons_zero, List.set_cons_succ]
      refine g_take (i := 17) (d := (some 105)) (v := ?_) rfl rfl (by kernel_rfl) (fun _ _ _ h => h) (by rfl) (fun w' hb' => ?_) ?_
      rotate_left
      · (try go_simp); (try with_reducible rfl)
      try simp only [Act.put, List.setIfInBounds_toArray, List.set_cons_zero, List.set_cons_succ]
      refine g_take (i := 18) (d := (some 106)) (v := ?_) rfl rfl (by kernel_rfl) (fun _ _ _ h => h) (by rfl) (fun w' hb' => ?_) ?_
      rotate_left
      · (try go_simp); (try with_reducible rfl)
      try simp only [Act.put, List.setIfInBounds_toArray, List.set_cons_zero, List.set_cons_succ]
      refine g_take (i := 19) (d := (some 107)) (v := ?_) rfl rfl (by kernel_rfl) (fun _ _ _ h => h) (by rfl) (fun w' hb' => ?_) ?_
      rotate_left
      · (try go_simp); (try with_reducible rfl)
      try simp only [Act.put, List.setIfInBounds_toArray, List.set_cons_zero, List.set_cons_succ]
      refine g_take (i := 20) (d := (some 108)) (v := ?_) rfl rfl (by kernel_rfl) (fun _ _ _ h => h) (by rfl) (fun w' hb' => ?_) ?_
      rotate_left
      · (try go_simp); (try with_reducible rfl)
      try simp only [Act.put, List.setIfInBounds_toArray, List.set_cons_zero, List.set_cons_succ]
      refine g_take (i := 21) (d := (some 109)) (v := ?_) rfl rfl (by kernel_rfl) (fun _ _ _ h => h) (by rfl) (fun w' hb' => ?_) ?_
      rotate_left
      · (try go_simp); (try with_reducible rfl)
      try simp only [Act.put, List.setIfInBounds_toArray, List.set_cons_zero, List.set_cons_succ]
      refine g_take (i := 22) (d := (some 110)) (v := ?_) rfl rfl (by kernel_rfl) (fun _ _ _ h => h) (by rfl) (fun w' hb' => ?_) ?_
      rotate_left
      · (try go_simp); (try with_reducible rfl)
      try simp only [Act.put, List.setIfInBounds_toArray, List.set_cons_zero, List.set_cons_succ]
      refine g_take (i := 23) (d := (some 111)) (v := ?_) rfl rfl (by kernel_rfl) (fun _ _ _ h => h) (by rfl) (fun w' hb' => ?_) ?_
      rotate_left
      · (try go_simp); (try with_reducible rfl)
      try simp only [Act.put, List.setIfInBounds_toArray, List.set_cons_zero, List.set_cons_succ]
      refine g_take (i := 24) (d := (some 112)) (v := ?_) rfl rfl (by kernel_rfl) (fun _ _ _ h => h) (by rfl) (fun w' hb' => ?_) ?_
      rotate_left
      · (try go_simp); (try with_reducible rfl)
      try simp only [Act.put, List.setIfInBounds_toArray, List.set_cons_zero, List.set_cons_succ]
      refine g_take (i := 25) (d := (some 113)) (v := ?_) rfl rfl (by kernel_rfl) (fun _ _ _ h => h) (by rfl) (fun w' hb' => ?_) ?_
      rotate_left
      · (try go_simp); (try with_reducible rfl)
      try simp only [Act.put, List.setIfInBounds_toArray, List.set_cons_zero, List.set_cons_succ]
      refine g_take (i := 26) (d := (some 114)) (v := ?_) rfl rfl (by kernel_rfl) (fun _ _ _ h => h) (by rfl) (fun w' hb' => ?_) ?_
      rotate_left
      · (try go_simp); (try with_reducible rfl)
      try simp only [Act.put, List.setIfInBounds_toArray, List.set_cons_zero, List.set_cons_succ]
      refine g_take (i := 27) (d := (some 115)) (v := ?_) rfl rfl (by kernel_rfl) (fun _ _ _ h => h) (by rfl) (fun w' hb' => ?_) ?_
      rotate_left
      · (try go_simp); (try with_reducible rfl)
      try simp only [Act.put, List.setIfInBounds_toArray, List.set_cons_zero, List.set_cons_succ]
      refine g_take (i := 28) (d := (some 116)) (v := ?_) rfl rfl (by kernel_rfl) (fun _ _ _ h => h) (by rfl) (fun w' hb' => ?_) ?_
      rotate_left
      · (try go_simp); (try with_reducible rfl)
      try simp only [Act.put, List.setIfInBounds_toArray, List.set_cons_zero, List.set_cons_succ]
      refine g_take (i := 29) (d := (some 117)) (v := ?_) rfl rfl (by kernel_rfl) (fun _ _ _ h => h) (by rfl) (fun w' hb' => ?_) ?_
      rotate_left
      · (try go_simp); (try with_reducible rfl)
      try simp only [Act.put, List.setIfInBounds_toArray, List.set_cons_zero, List.set_cons_succ]
      refine g_take (i := 30) (d := (some 118)) (v := ?_) rfl rfl (by kernel_rfl) (fun _ _ _ h => h) (by rfl) (fun w' hb' => ?_) ?_
      rotate_left
      · (try go_simp); (try with_reducible rfl)
      try simp only [Act.put, List.setIfInBounds_toArray, List.set_cons_zero, List.set_cons_succ]
      refine g_take (i := 31) (d := (some 119)) (v := ?_) rfl rfl (by kernel_rfl) (fun _ _ _ h => h) (by rfl) (fun w' hb' => ?_) ?_
      rotate_left
      · (try go_simp); (try with_reducible rfl)
      try simp only [Act.put, List.setIfInBounds_toArray, List.set_cons_zero, List.set_cons_succ]
      refine g_take (i := 32) (d := (some 120)) (v := ?_) rfl rfl (by kernel_rfl) (fun _ _ _ h => h) (by rfl) (fun w' hb' => ?_) ?_
      rotate_left
      · (try go_simp); (try with_reducible rfl)
      try simp only [Act.put, List.setIfInBounds_toArray, List.set_cons_zero, List.set_cons_succ]
      refine g_take (i := 33) (d := (some 121)) (v := ?_) rfl rfl (by kernel_rfl) (fun _ _ _ h => h) (by rfl) (fun w' hb' => ?_) ?_
      rotate_left
      · (try go_simp); (try with_reducible rfl)
      try simp only [Act.put, List.setIfInBounds_toArray, List.set_cons_zero, List.set_cons_succ]
      refine g_run (i := 34) rfl (by kernel_rfl) (by rfl) (fun K hK => ?_)
      go_simp; refine (AW.out _ h8).mono ?_; rintro e uz ⟨rfl, gz⟩; replace h8 := chain h8 gz; refine hK _ _ ⟨gz, ?_⟩; clear hK K gz
      try simp only [Act.put, List.setIfInBounds_toArray, List.set_cons_zero, List.set_cons_succ]
      refine g_take (i := 35) (d := (some 123)) (v := ?_) rfl rfl (by kernel_rfl) (fun _ _ _ h => h) (by rfl) (fun w' hb' => ?_) ?_
      rotate_left
      · (try go_simp); (try with_reducible rfl)
      try simp only [Act.put, List.setIfInBounds_toArray, List.set_cons_zero, List.set_cons_succ]
      refine g_take (i := 36) (d := (some 2)) (v := ?_) rfl rfl (by kernel_rfl) (fun _ _ _ h => h) (by rfl) (fun w' hb' => ?_) ?_
      rotate_left
      · (try go_simp); (try with_reducible rfl)
      try simp only [Act.put, List.setIfInBounds_toArray, List.set_cons_zero, List.set_cons_succ]
      refine g_done (by kernel_rfl) ?_
      go_wp2_with fail
      go_ret
      exact ⟨rfl, chain BW.out h8⟩
    · have e1 : SL.length = 0 := by rw [HSL.out]; unfold scL; rw [← HE.out, if_neg hc]; rfl
      have e2 : BL.length = 0 := by rw [HBL.out, sc_none (by rw [← HE.out]; exact hc)]; simp
      have e3 : nc = 0 := by rw [HNC.out, sc_none (by rw [← HE.out]; exact hc)]; rfl
      have d1 : (ez != 0) = true := by rw [HEZ.out]; simp; omega
      rw [e1, e2, e3]
      clear HSL HBL HNC HE HEZ hc e1 e2 e3 RL RB q3
      go_wp2_with ((with_reducible refine (AW.out _ h8).mono ?_); rintro e uz ⟨rfl, gz⟩; (replace h8 := chain h8 gz))
      go_ret
      exact ⟨rfl, chain BW.out h8⟩
end Go.Proofs.YtmjedjhkhjiigaaDoor
