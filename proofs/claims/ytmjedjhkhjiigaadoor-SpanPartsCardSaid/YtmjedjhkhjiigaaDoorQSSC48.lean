/- Span: the law SpanParts. Written by wip/tools/gen11r3.py. -/
import Derived.Test.YtmjedjhkhjiigaaDoorQSSC46
import Derived.Test.YtmjedjhkhjiigaaDoorQSSC47
import Derived.Test.YtmjedjhkhjiigaaDoorQSSC25
namespace Go.Proofs.YtmjedjhkhjiigaaDoor
open Go Go.RowKit
set_option linter.unusedVariables false
set_option linter.unusedSimpArgs false
theorem wpList_unguard {P : Program} {ops : Array Oper} {rest : List Oper} {o : Oper} {a : Act} {w : World} {Q : Exit → Act → World → Prop} (hw : Region.wanted o (yielded ops a.tmps) = true) (h : wpList P ops Q ({o with guard := none} :: rest) a w) : wpList P ops Q (o :: rest) a w := by
  simp only [wpList, hw, if_true]
  have hn : Region.wanted {o with guard := none} (yielded ops a.tmps) = true := rfl
  simp only [wpList, hn, if_true] at h
  exact h
set_option maxRecDepth 100000 in
set_option maxHeartbeats 2000000 in
theorem parts_row11 (CO cs : Array Value) (lv : Nat → List It) (vs : Nat → Int) (f t : List UInt8) (m : Int) (c : List UInt8) (w : World) (hA : RdA w CO cs lv vs f t m) (hc : c.length ≤ maxLen) (tab : TabAt w) :
    Calls Tryd.prog 10 #[.agg CO, .string (str c)] w fun e w' => e = .returned (.bool true) ∧ Below w.heap.size w w' := by
  obtain ⟨h, hsz, hsub, h32, h33, h34, hf, ht⟩ := hA
  have TAB := Lib.hid tab
  have hs0 := infoTc h.size
  have z0 := zeroT_run
  have z1 := zT_ne
  obtain ⟨fs, hfs⟩ : ∃ k, k = f.take 60 := ⟨_, rfl⟩
  obtain ⟨ts, hts⟩ : ∃ k, k = t.take 60 := ⟨_, rfl⟩
  have SF0 := fun W => short11_any f W hf
  have ST0 := fun W => short11_any t W ht
  have ff : fs.length ≤ maxLen := by rw [hfs]; exact Nat.le_trans (List.length_take_le _ _) (by decide)
  have tt : ts.length ≤ maxLen := by rw [hts]; exact Nat.le_trans (List.length_take_le _ _) (by decide)
  rw [← hfs] at SF0
  rw [← hts] at ST0
  have SF := Lib.hid SF0
  obtain ⟨ks, hks⟩ : ∃ k, k = c.take 60 := ⟨_, rfl⟩
  have SK0 := fun W => short11_any c W hc
  have kk : ks.length ≤ maxLen := by rw [hks]; exact Nat.le_trans (List.length_take_le _ _) (by decide)
  rw [← hks] at SK0
  have SK := Lib.hid SK0
  obtain ⟨i0, hi, hz0, hz1, hz2⟩ := info_parts item_info
  have ST := Lib.hid ST0
  obtain ⟨lF, hlF⟩ : ∃ lF, lF = fun b => fewL (lv b) := ⟨_, rfl⟩
  have szF : SzT lF := by rw [hlF]; exact fewT_sz lv
  have lenF : ∀ b, b < 16 → (lF b).length ≤ 100 := by rw [hlF]; exact fewT_len lv
  have q1 := heap_alloc_new w (.cells CO 63)
  have bel := (Below.refl w.heap.size w).alloc (Nat.le_refl _) (.cells CO 63)
  obtain ⟨W0, hW0⟩ : ∃ W, W = w.alloc (.cells CO 63) := ⟨_, rfl⟩
  rw [← hW0] at q1 bel
  have Q1 := Lib.hid q1
  have PT := Lib.hid (show ∀ W, Below W0.heap.size W0 W → W.rangeAt w.heap.size 0 cs.toList from fun W g => part_at ((g.block _ (lt_of_block Q1.out)).trans Q1.out) (fun j hj => hsub j (by rw [h.size] at hj; exact hj)))
  have C32 := Lib.hid (show ∀ W, Below W0.heap.size W0 W → W.cell? ⟨w.heap.size, 32, none⟩ = some (.string (str f)) from fun W g => (block_cell ((g.block _ (lt_of_block Q1.out)).trans Q1.out) 32).trans h32)
  have C33 := Lib.hid (show ∀ W, Below W0.heap.size W0 W → W.cell? ⟨w.heap.size, 33, none⟩ = some (.string (str t)) from fun W g => (block_cell ((g.block _ (lt_of_block Q1.out)).trans Q1.out) 33).trans h33)
  have C34 := Lib.hid (show ∀ W, Below W0.heap.size W0 W → W.cell? ⟨w.heap.size, 34, none⟩ = some (.int .i64 m) from fun W g => (block_cell ((g.block _ (lt_of_block Q1.out)).trans Q1.out) 34).trans h34)
  have FW0 := fun W (g : Below W0.heap.size W0 W) => few10_any cs lv vs W ((h.below bel (Nat.le_refl _)).below g (Nat.le_refl _)) hsz
  unfold FewP at FW0
  rw [← hlF] at FW0
  have FW := Lib.hid FW0
  have BEL := Lib.hid bel
  clear h hsz tab hsub h32 h33 h34 hlF FW0 q1 bel SF0 ST0 SK0 hfs hts hks hf ht hc
  go_enter Tryd.func10, Tryd.ntmps10
  go_wp2_with fail
  rw [← hW0]
  clear hW0
  have hS := Below.drew (Below.refl W0.heap.size W0)
  refine gs_start (S := (fun w' => Below W0.heap.size W0 w')) (by kernel_rfl) ?_
  refine gs_take (i := 0) (d := (some 17)) (v := ?_) rfl rfl (by kernel_rfl) (fun _ _ _ h => h) (by rfl) hS (fun w' hb' => ?_) ?_
  rotate_left
  · (try go_simp); (try with_reducible rfl)
  try simp only [Act.put, List.setIfInBounds_toArray, List.set_cons_zero, List.set_cons_succ]
  refine gs_take (i := 1) (d := (some 18)) (v := ?_) rfl rfl (by kernel_rfl) (fun _ _ _ h => h) (by rfl) hS (fun w' hb' => ?_) ?_
  rotate_left
  · (refine load_part_op _ _ (.tmp 17) ?_ ?_ (PT.out _ hb') Tryd.underlying26 ?_ hs0 <;> rfl); (try go_simp); (try with_reducible rfl)
  try simp only [Act.put, List.setIfInBounds_toArray, List.set_cons_zero, List.set_cons_succ]
  refine gs_take (i := 3) (d := (some 20)) (v := ?_) rfl rfl (by kernel_rfl) (fun _ _ _ h => h) (by rfl) hS (fun w' hb' => ?_) ?_
  rotate_left
  · (try go_simp); (try with_reducible rfl)
  try simp only [Act.put, List.setIfInBounds_toArray, List.set_cons_zero, List.set_cons_succ]
  refine gs_take (i := 4) (d := (some 21)) (v := ?_) rfl rfl (by kernel_rfl) (fun _ _ _ h => h) (by rfl) hS (fun w' hb' => ?_) ?_
  rotate_left
  · have c32 := C32.out _ hb'; (try go_simp); (try with_reducible rfl)
  try simp only [Act.put, List.setIfInBounds_toArray, List.set_cons_zero, List.set_cons_succ]
  refine gs_take (i := 6) (d := (some 23)) (v := ?_) rfl rfl (by kernel_rfl) (fun _ _ _ h => h) (by rfl) hS (fun w' hb' => ?_) ?_
  rotate_left
  · (try go_simp); (try with_reducible rfl)
  try simp only [Act.put, List.setIfInBounds_toArray, List.set_cons_zero, List.set_cons_succ]
  refine gs_take (i := 7) (d := (some 24)) (v := ?_) rfl rfl (by kernel_rfl) (fun _ _ _ h => h) (by rfl) hS (fun w' hb' => ?_) ?_
  rotate_left
  · have c33 := C33.out _ hb'; (try go_simp); (try with_reducible rfl)
  try simp only [Act.put, List.setIfInBounds_toArray, List.set_cons_zero, List.set_cons_succ]
  refine gs_run2 (i := 2) (k := 9) rfl rfl (by kernel_rfl) (by rfl) (by rfl) (fun K hK => ?_) (fun K hK => ?_)
  · skip
    go_simp
    refine (FW.out _ hS).mono ?_
    rintro e y1 ⟨CF, rfl, own, g⟩
    have hS := chain hS g
    have hF := Below.refl y1.heap.size y1
    have RF := Lib.hid own.rd
    refine hK _ _ ⟨hS, ?_⟩
    clear hK K g
    try simp only [Act.put, List.setIfInBounds_toArray, List.set_cons_zero, List.set_cons_succ]
    refine gs_run2 (i := 5) (k := 9) rfl rfl (by kernel_rfl) (by rfl) (by rfl) (fun K hK => ?_) (fun K hK => ?_)
    · skip
      go_simp
      refine (SF.out _).mono ?_
      rintro e w' ⟨rfl, rfl⟩
      refine hK _ _ ⟨hS, ?_⟩
      clear hK K
      try simp only [Act.put, List.setIfInBounds_toArray, List.set_cons_zero, List.set_cons_succ]
      refine gs_run2 (i := 8) (k := 9) rfl rfl (by kernel_rfl) (by rfl) (by rfl) (fun K hK => ?_) (fun K hK => ?_)
      · skip
        go_simp
        refine (ST.out _).mono ?_
        rintro e w' ⟨rfl, rfl⟩
        refine hK _ _ ⟨hS, ?_⟩
        clear hK K
        try simp only [Act.put, List.setIfInBounds_toArray, List.set_cons_zero, List.set_cons_succ]
        refine gs_run (i := 9) rfl (by kernel_rfl) (by rfl) (fun K hK => ?_)
        go_simp
        have qz : (World.alloc y1 (.cells zT 26)).heap[y1.heap.size]? = some (.cells zT 26 (0, 0)) := heap_alloc_new y1 (.cells zT 26)
        have GA0 : W0.heap.size ≤ y1.heap.size := hS.size
        have GAF : y1.heap.size ≤ y1.heap.size := hF.size
        have g := (Below.refl y1.heap.size y1).alloc (Nat.le_refl _) (.cells zT 26)
        have hS : Below W0.heap.size W0 (World.alloc y1 (.cells zT 26)) := hS.alloc hS.size (.cells zT 26)
        have own := own.below g
        have hF := chain hF g
        refine hK _ _ ⟨hS, ?_⟩
        clear hK K g
        obtain ⟨y2, hy⟩ : ∃ W, W = World.alloc y1 (.cells zT 26) := ⟨_, rfl⟩
        rw [← hy] at qz hS own hF ⊢
        clear hy
        try simp only [Act.put, List.setIfInBounds_toArray, List.set_cons_zero, List.set_cons_succ]
        refine gs_run (i := 10) rfl (by kernel_rfl) (by rfl) (fun K hK => ?_)
        have hsF := infoTc own.size
        have hzF : zT.size = CF.size := by rw [own.size]; rfl
        have hoF := own.rd.one
        refine wp_store_row 26 (.tmp 5) (.tmp 19) rfl _ CF rfl rfl _ zT qz hsF hzF hoF ?_
        have qn := setRow_heap _ _ _ CF _ _ qz
        have hS := below_row hS GA0 CF
        have hF := below_row hF GAF CF
        refine hK _ _ ⟨hS, ?_⟩
        clear hK K
        obtain ⟨WS, hWS⟩ : ∃ W, W = World.setRow y2 y1.heap.size CF := ⟨_, rfl⟩
        rw [← hWS] at qn hS hF  ⊢
        clear hWS
        have HT := Lib.hid (show RdT WS CF lF vs from RF.out.below hF (Nat.le_refl _))
        have Q3 := Lib.hid qn
        clear qz qn hF own RF hsF hzF hoF GAF
        try simp only [Act.put, List.setIfInBounds_toArray, List.set_cons_zero, List.set_cons_succ]
        refine gs_take (i := 11) (d := (some 6)) (v := ?_) rfl rfl (by kernel_rfl) (fun _ _ _ h => h) (by rfl) hS (fun w' hb' => ?_) ?_
        rotate_left
        · (try go_simp); (try with_reducible rfl)
        try simp only [Act.put, List.setIfInBounds_toArray, List.set_cons_zero, List.set_cons_succ]
        refine gs_take (i := 12) (d := (some 7)) (v := ?_) rfl rfl (by kernel_rfl) (fun _ _ _ h => h) (by rfl) hS (fun w' hb' => ?_) ?_
        rotate_left
        · (try go_simp); (try with_reducible rfl)
        try simp only [Act.put, List.setIfInBounds_toArray, List.set_cons_zero, List.set_cons_succ]
        refine gs_done (by kernel_rfl) ?_
        have GAW : w.heap.size < y1.heap.size := by have := lt_of_block Q1.out; omega
        obtain ⟨ga, hga⟩ : ∃ ga, ga = y1.heap.size := ⟨_, rfl⟩
        rw [← hga] at GAW Q3 ⊢
        clear hga GA0
        have hsF := infoTc HT.out.size
        have BW := Lib.hid (chain BEL.out hS)
        have TS := Lib.hid (TAB.out.below BW.out)
        have h8 := Below.refl WS.heap.size WS
        clear PT FW C32 C33 C34 SF ST hS z0 z1 hs0
        have S10 := fun W (g : Below WS.heap.size WS W) => scan_any CF lF vs fs ts 2000 W (TS.out.below g) (HT.out.below g (Nat.le_refl _)) szF ff tt
        have S20 := fun W (g : Below WS.heap.size WS W) => scan_any CF lF vs fs ks 2000 W (TS.out.below g) (HT.out.below g (Nat.le_refl _)) szF ff kk
        have S30 := fun W (g : Below WS.heap.size WS W) => scan_any CF lF vs ks ts 2000 W (TS.out.below g) (HT.out.below g (Nat.le_refl _)) szF kk tt
        have B10 := fun W (g : Below WS.heap.size WS W) => back_any CF lF vs fs ts 2000 W (TS.out.below g) (HT.out.below g (Nat.le_refl _)) szF ff tt
        have AW := Lib.hid (fun W (g : Below WS.heap.size WS W) => awake11_any W (TS.out.below g))
        obtain ⟨SL, hSL⟩ : ∃ X, X = scL lF vs fs ts 2000 := ⟨_, rfl⟩
        obtain ⟨BL, hBL⟩ : ∃ X, X = (scL lF vs fs ts 1024).reverse.take (2000 : Int).toNat := ⟨_, rfl⟩
        obtain ⟨E, hE⟩ : ∃ X, X = ckE lF vs [fs, ts] := ⟨_, rfl⟩
        obtain ⟨ez, hez⟩ : ∃ z : Int, z = (E : Int) := ⟨_, rfl⟩
        rw [← hSL, ← hE, ← hez] at S10
        rw [← hBL, ← hE, ← hez] at B10
        have S1 := Lib.hid S10
        have B1 := Lib.hid B10
        have HSL := Lib.hid hSL
        have HBL := Lib.hid hBL
        have HE := Lib.hid hE
        have HEZ := Lib.hid hez
        clear S10 B10 hSL hBL hE hez
        have S2 := Lib.hid S20
        have S3 := Lib.hid S30
        clear S20 S30
        go_wp2_with fail
        refine (SK.out _).mono ?_
        rintro e w' ⟨rfl, rfl⟩
        have q3 := Q3.out
        go_wp2_with ((with_reducible refine wpList_load_row (o := ⟨some 29, _, _, _, _, _⟩) rfl 26 (.tmp 5) rfl _ rfl _ CF (0, 0) _ q3 Tryd.underlying26 rfl hsF ?_))
        refine (S1.out _ h8).mono ?_
        rintro e v1 ⟨vL, rfl, ownL, g⟩
        obtain ⟨aL, kL, rfl, -, -, RL⟩ := RdK.open (OwnI.rd (w := v1) ownL)
        replace h8 := chain h8 g
        replace q3 := (h8.block _ (lt_of_block Q3.out)).trans Q3.out
        clear g ownL S1 SK
        by_cases hc : E = 0
        · have hmp : mayTs lF vs 16 = true ∧ patB fs = true ∧ patB ts = true := by
            have h0 := HE.out.symm.trans hc
            cases hm : mayTs lF vs 16 with
            | false => rw [ck_no hm] at h0; exact absurd h0 (by decide)
            | true =>
              cases hp : ([fs, ts] : List (List UInt8)).all patB with
              | true => exact ⟨rfl, by simpa using hp⟩
              | false => rw [ck_form hm hp] at h0; exact absurd h0 (by decide)
          obtain ⟨hmy, hpf, hpt⟩ := hmp
          have s0 : SL = rngL lF fs ts := by
            rw [HSL.out]; unfold scL; rw [← HE.out, if_pos hc]
            exact List.take_of_length_le (Nat.le_trans (rng_len hmy _ _) (by decide))
          have e2 : BL.reverse = SL := by
            rw [HBL.out, sc_full (HE.out.symm.trans hc), s0, List.take_of_length_le (by rw [List.length_reverse]; exact Nat.le_trans (rng_len hmy _ _) (by decide)), List.reverse_reverse]
          have HN := Lib.hid (show SL.length ≤ 1024 by rw [s0]; exact rng_len hmy _ _)
          have HB := Lib.hid (show BL.length ≤ 1024 by have := congrArg List.length e2; rw [List.length_reverse] at this; rw [this]; exact HN.out)
          have HSZ := Lib.hid (show ∀ x ∈ SL, x.key.length ≤ maxLen from fun x hx => by rw [s0] at hx; exact (allS_sz szF _ ((rng_mem hmy).1 hx).1).1)
          have HST := Lib.hid (show SrtI SL by rw [s0]; exact rng_sorted hmy _ _)
          have HS0 := Lib.hid s0
          have HE2 := Lib.hid e2
          have e5 : ez = 0 := by rw [HEZ.out, hc]; rfl
          have SAMEB : ∀ (W : World) (k : Nat), Below W.heap.size W (W.drewN k) := fun W k => below_drewN (Below.refl W.heap.size W)
          have PQ0 := fun W (t : TabAt W) => refPattern_any ks kk W t
          clear s0 e2 HSL HBL HE HEZ hc
          subst e5
          cases hp : patB ks with
          | false =>
            rw [hp] at PQ0
            have PQ := Lib.hid PQ0
            clear PQ0 hp
            go_wp2_with (first | ((with_reducible refine (PQ.out _ (TS.out.below h8)).mono ?_); rintro e w' ⟨rfl, rfl⟩) | ((with_reducible refine (AW.out _ h8).mono ?_); rintro e uz ⟨rfl, gz⟩; (replace h8 := chain h8 gz)))
            go_ret
            exact ⟨rfl, chain BW.out h8⟩
          | true =>
            rw [hp] at PQ0
            have PQ := Lib.hid PQ0
            clear PQ0
            go_wp2_with (first | ((with_reducible refine (PQ.out _ (TS.out.below h8)).mono ?_); rintro e w' ⟨rfl, rfl⟩) | ((with_reducible refine wpList_load_row (o := ⟨some 53, _, _, _, _, _⟩) rfl 26 (.tmp 5) rfl _ rfl _ CF (0, 0) _ q3 Tryd.underlying26 rfl hsF ?_)))
            refine (B1.out _ h8).mono ?_
            rintro e v2 ⟨vB, rfl, ownB, g⟩
            obtain ⟨aB, kB, rfl, -, -, RB⟩ := RdK.open (OwnI.rd (w := v2) ownB)
            replace h8 := chain h8 g
            replace RL := RdK.below RL g (Nat.le_refl _)
            have TN0 := fun W (h : RdK 5 itC W (.slice aB BL.length kB) BL) => turned_any (.slice aB BL.length kB) BL W h (by have := HB.out; omega)
            rw [HE2.out] at TN0
            have TN := Lib.hid TN0
            have SM := Lib.hid (fun (aT : Option Addr) (kT : Nat) W (h : RdK 5 itC W (.slice aT SL.length kT) SL) (h2 : RdK 5 itC W (.slice aL SL.length kL) SL) => refSame11_yes (.slice aT SL.length kT) (.slice aL SL.length kL) SL W h h2 (by have := HN.out; omega))
            clear g ownB q3 TN0 B1
            go_wp2_with (first | ((with_reducible refine (TN.out _ RB).mono ?_); rintro e v3 ⟨vT, rfl, ownT, g⟩; (obtain ⟨aT, kT, rfl, -, -, RT⟩ := RdK.open (OwnI.rd (w := v3) ownT)); (replace h8 := chain h8 g); (replace RL := RdK.below RL g (Nat.le_refl _)); clear g ownT RB) | ((with_reducible refine (SM.out aT kT _ RT RL).mono ?_); rintro e v4 ⟨rfl, n1, hw⟩; (have b1 : Below v3.heap.size v3 v4 := (by rw [hw]; exact SAMEB _ n1)); (replace h8 := chain h8 b1); (replace RL := RdK.below RL b1 (Nat.le_refl _)); clear hw b1 RT))
            have HRL := Lib.hid RL
            have H8 := Lib.hid h8
            have hn := HN.out
            clear RL h8 TN PQ
            go_loopw [12] (fun i wr => ∃ (j n0 : Nat), j ≤ SL.length ∧ i = .int .i64 (j : Int) ∧ Hid (wr = v4.drewN n0)) (fun i _ => 4000 - (intOf i).toNat)
            case atStart => exact ⟨0, 0, Nat.zero_le _, rfl, (rfl : v4 = v4.drewN 0)⟩
            case round =>
              obtain ⟨j, n0, hj, rfl, HW⟩ := hrel
              have e69 : IntKind.i64.wrap ((j : Int) + 1) = ((j + 1 : Nat) : Int) := by rw [IntKind.wrap_i64]; omega
              have bel : Below v4.heap.size v4 wr := by rw [HW.out]; exact below_drewN (Below.refl _ _)
              by_cases hlt : j + 1 < SL.length
              · have R1 : RdI wr (.slice aL SL.length kL) SL := RdK.below HRL.out bel (Nat.le_refl _)
                obtain ⟨b, off, hbo, hb, c0, -, -, -, -⟩ := rdi_cells R1 j (by omega)
                obtain ⟨b2, off2, hbo2, hb2, d0, -, -, -, -⟩ := rdi_cells R1 (j + 1) hlt
                rw [hbo] at hbo2
                cases hbo2
                obtain ⟨x, hx⟩ : ∃ x, x = SL[j]'(by omega) := ⟨_, rfl⟩
                obtain ⟨y, hy⟩ : ∃ x, x = SL[j + 1]'hlt := ⟨_, rfl⟩
                rw [← hx] at c0
                rw [← hy] at d0
                have hxl : x.key.length ≤ maxLen := by rw [hx]; exact HSZ.out _ (List.getElem_mem _)
                have hyl : y.key.length ≤ maxLen := by rw [hy]; exact HSZ.out _ (List.getElem_mem _)
                have ho : ltB x.key y.key = true := by rw [hx, hy]; exact (List.pairwise_iff_getElem.1 HST.out) j (j + 1) (by omega) hlt (by omega)
                have AQ0 := fun W => ahead_q x.key y.key W hxl hyl
                simp only [ho] at AQ0
                have AQH := Lib.hid AQ0
                clear hx hy AQ0 ho R1 hxl hyl bel
                rw [hbo]
                go_wp2_with fail
                go_quiet ((go_at_call 52; exact Calls.quiet_of (AQH.out _)))
                have bel2 : Hid (wr.drewN nq = v4.drewN (n0 + nq)) := by have h := HW.out; exact Lib.hid (by rw [h, World.drewN_drewN])
                go_wp2_with fail
                exact ⟨⟨j + 1, n0 + nq, by omega, by push_cast; rfl, bel2⟩, by simp [intOf]; omega⟩
              · have RL : RdK 5 itC wr (.slice aL SL.length kL) SL := RdK.below HRL.out bel (Nat.le_refl _)
                have h8 := chain H8.out bel
                have a10 := fun W (t : TabAt W) => ahead_any ks fs kk ff W t
                have a20 := fun W (t : TabAt W) => ahead_any ks ts kk tt W t
                have hk0 := emp_eq ks
                have ht0 := emp_eq ts
                clear bel HW
                by_cases hkn : ks = []
                · simp only [hkn, decide_true] at hk0
                  rw [← hkn] at hk0
                  clear hkn a10 a20
                  go_wp2_with ((with_reducible refine (AW.out _ h8).mono ?_); rintro e uz ⟨rfl, gz⟩; (replace h8 := chain h8 gz))
                  go_ret
                  exact ⟨rfl, chain BW.out h8⟩
                · simp only [hkn, decide_false] at hk0
                  cases h1 : ltB ks fs with
                  | true =>
                    rw [h1] at a10
                    have A1 := Lib.hid a10
                    clear a10 a20 h1
                    go_wp2_with (first | ((with_reducible refine (A1.out _ (TS.out.below h8)).mono ?_); rintro e w7 ⟨rfl, g⟩; (replace h8 := chain h8 g); (replace RL := RdK.below RL g (Nat.le_refl _)); clear g) | ((with_reducible refine (AW.out _ h8).mono ?_); rintro e uz ⟨rfl, gz⟩; (replace h8 := chain h8 gz)))
                    go_ret
                    exact ⟨rfl, chain BW.out h8⟩
                  | false =>
                    rw [h1] at a10
                    have A1 := Lib.hid a10
                    clear a10
                    have c2 : ((ckE lF vs [fs, ks] : Nat) : Int) = 0 := by rw [ck_ok hmy (by simp [hpf, hp])]; rfl
                    have c3 : ((ckE lF vs [ks, ts] : Nat) : Int) = 0 := by rw [ck_ok hmy (by simp [hpt, hp])]; rfl
                    obtain ⟨LX, hLX⟩ : ∃ X, X = scL lF vs fs ks 2000 := ⟨_, rfl⟩
                    obtain ⟨LY, hLY⟩ : ∃ X, X = scL lF vs ks ts 2000 := ⟨_, rfl⟩
                    have x1 : LX = rngL lF fs ks := by
                      rw [hLX]; unfold scL; rw [ck_ok hmy (by simp [hpf, hp]), if_pos rfl]
                      exact List.take_of_length_le (Nat.le_trans (rng_len hmy _ _) (by decide))
                    have y1 : LY = rngL lF ks ts := by
                      rw [hLY]; unfold scL; rw [ck_ok hmy (by simp [hpt, hp]), if_pos rfl]
                      exact List.take_of_length_le (Nat.le_trans (rng_len hmy _ _) (by decide))
                    have s2 := S2.out
                    have s3 := S3.out
                    rw [c2, ← hLX] at s2
                    rw [c3, ← hLY] at s3
                    replace S2 := Lib.hid s2
                    replace S3 := Lib.hid s3
                    have HX9 := Lib.hid (show LX.length ≤ 1024 by rw [x1]; exact rng_len hmy _ _)
                    have HY9 := Lib.hid (show LY.length ≤ 1024 by rw [y1]; exact rng_len hmy _ _)
                    have JN : ts = [] ∨ ltB ks ts = true → LX ++ LY = SL := fun h => by rw [x1, y1, HS0.out]; exact rng_cut hmy hkn h1 h
                    clear c2 c3 hLX hLY x1 y1 s2 s3 h1
                    by_cases htn : ts = []
                    · have J := Lib.hid (JN (.inl htn))
                      simp only [htn, decide_true] at ht0
                      rw [← htn] at ht0
                      clear JN htn hkn a20
                      go_wp2_with (first | ((with_reducible refine (A1.out _ (TS.out.below h8)).mono ?_); rintro e w7 ⟨rfl, g⟩; (replace h8 := chain h8 g); (replace RL := RdK.below RL g (Nat.le_refl _)); clear g) | ((have q3 := (h8.block _ (lt_of_block Q3.out)).trans Q3.out); ((with_reducible refine wpList_load_row (o := ⟨some 107, _, _, _, _, _⟩) rfl 26 (.tmp 5) rfl _ rfl _ CF (0, 0) _ q3 Tryd.underlying26 rfl hsF ?_))))
                      refine (S2.out _ h8).mono ?_
                      rintro e v8 ⟨vX, rfl, ownX, g⟩
                      obtain ⟨aX, kX, rfl, -, -, RX⟩ := RdK.open (OwnI.rd (w := v8) ownX)
                      replace h8 := chain h8 g
                      replace RL := RdK.below RL g (Nat.le_refl _)
                      have q3 := (h8.block _ (lt_of_block Q3.out)).trans Q3.out
                      clear g ownX
                      go_wp2_with ((with_reducible refine wpList_load_row (o := ⟨some 114, _, _, _, _, _⟩) rfl 26 (.tmp 5) rfl _ rfl _ CF (0, 0) _ q3 Tryd.underlying26 rfl hsF ?_))
                      refine (S3.out _ h8).mono ?_
                      rintro e v9 ⟨vY, rfl, ownY, g⟩
                      obtain ⟨aY, kY, rfl, -, -, RY⟩ := RdK.open (OwnI.rd (w := v9) ownY)
                      replace h8 := chain h8 g
                      replace RL := RdK.below RL g (Nat.le_refl _)
                      replace RX := RdK.below RX g (Nat.le_refl _)
                      have LIT := Lib.hid (World.ownsRow_lit (e := 32) (size := 5) v9 #[] 0 (Nat.le_refl _) (by decide) rfl)
                      have bL := (Below.refl v9.heap.size v9).alloc (Nat.le_refl _) (.cells #[] 32)
                      have nX := HX9.out
                      have nY := HY9.out
                      clear g ownY q3
                      go_wp2_with (first
                        | (at_builtin; (with_reducible refine wpList_unguard (o := ⟨some 129, _, _, _, _, _⟩) ?_ ?_); rfl; refine wpList_app_rdk itC_len (by decide) v9 rfl (.tmp 127) (.tmp 128) 22 rfl v9.heap.size 32 i0 (.agg #[.string ⟨#[]⟩, .int .i64 0, .int .i64 0, .string ⟨#[]⟩, .int .i64 0]) 56 Tryd.underlying22 hi hz0 hz1 hz2 rfl (.slice (some ⟨v9.heap.size, 0, none⟩) 0 0) [] rfl LIT.out (.slice aX LX.length kX) LX rfl (RdK.below RX bL (Nat.le_refl _)) itC_one (by unfold maxLen; simp; omega) (by simp; omega) (Nat.le_refl _) bL ?_; intro va wa owna ba qa; clear qa; rw [List.nil_append] at owna; (obtain ⟨a1, k1, rfl, -, -, -⟩ := RdK.open (own_rdk itC_len owna)); (replace RY := RdK.below RY ba (Nat.le_refl _)))
                        | (at_builtin; (with_reducible refine wpList_unguard (o := ⟨some 131, _, _, _, _, _⟩) ?_ ?_); rfl; refine wpList_app_rdk itC_len (by decide) v9 rfl (.tmp 129) (.tmp 130) 22 rfl v9.heap.size 32 i0 (.agg #[.string ⟨#[]⟩, .int .i64 0, .int .i64 0, .string ⟨#[]⟩, .int .i64 0]) 56 Tryd.underlying22 hi hz0 hz1 hz2 rfl (.slice a1 LX.length k1) LX rfl owna (.slice aY LY.length kY) LY rfl RY itC_one (by unfold maxLen; omega) (by omega) (Nat.le_refl _) ba ?_; intro vb wb ownb bb qb; clear qb; rw [J.out] at ownb; (obtain ⟨aT, kT, rfl, -, -, RT⟩ := RdK.open (own_rdk itC_len ownb)); (replace h8 := chain h8 bb); (replace RL := RdK.below RL bb (Nat.le_refl _)); clear owna ownb ba bb RX RY LIT bL)
                        | ((with_reducible refine (SM.out aT kT _ RT RL).mono ?_); rintro e v10 ⟨rfl, n1, hw⟩; (have b1 : Below wb.heap.size wb v10 := (by rw [hw]; exact SAMEB _ n1)); (replace h8 := chain h8 b1); (replace RL := RdK.below RL b1 (Nat.le_refl _)); clear hw b1 RT) | ((with_reducible refine (AW.out _ h8).mono ?_); rintro e uz ⟨rfl, gz⟩; (replace h8 := chain h8 gz)))
                      go_ret
                      exact ⟨rfl, chain BW.out h8⟩
                    · simp only [htn, decide_false] at ht0
                      cases h2 : ltB ks ts with
                      | false =>
                        rw [h2] at a20
                        have A2 := Lib.hid a20
                        clear a20 JN h2 htn hkn
                        go_wp2_with (first | ((with_reducible refine (A1.out _ (TS.out.below h8)).mono ?_); rintro e w7 ⟨rfl, g⟩; (replace h8 := chain h8 g); (replace RL := RdK.below RL g (Nat.le_refl _)); clear g) | ((with_reducible refine (A2.out _ (TS.out.below h8)).mono ?_); rintro e w7 ⟨rfl, g⟩; (replace h8 := chain h8 g); (replace RL := RdK.below RL g (Nat.le_refl _)); clear g) | ((with_reducible refine (AW.out _ h8).mono ?_); rintro e uz ⟨rfl, gz⟩; (replace h8 := chain h8 gz)))
                        go_ret
                        exact ⟨rfl, chain BW.out h8⟩
                      | true =>
                        rw [h2] at a20
                        have A2 := Lib.hid a20
                        have J := Lib.hid (JN (.inr h2))
                        clear a20 JN h2 htn hkn
                        go_wp2_with (first | ((with_reducible refine (A1.out _ (TS.out.below h8)).mono ?_); rintro e w7 ⟨rfl, g⟩; (replace h8 := chain h8 g); (replace RL := RdK.below RL g (Nat.le_refl _)); clear g) | ((with_reducible refine (A2.out _ (TS.out.below h8)).mono ?_); rintro e w7 ⟨rfl, g⟩; (replace h8 := chain h8 g); (replace RL := RdK.below RL g (Nat.le_refl _)); clear g) | ((have q3 := (h8.block _ (lt_of_block Q3.out)).trans Q3.out); ((with_reducible refine wpList_load_row (o := ⟨some 107, _, _, _, _, _⟩) rfl 26 (.tmp 5) rfl _ rfl _ CF (0, 0) _ q3 Tryd.underlying26 rfl hsF ?_))))
                        refine (S2.out _ h8).mono ?_
                        rintro e v8 ⟨vX, rfl, ownX, g⟩
                        obtain ⟨aX, kX, rfl, -, -, RX⟩ := RdK.open (OwnI.rd (w := v8) ownX)
                        replace h8 := chain h8 g
                        replace RL := RdK.below RL g (Nat.le_refl _)
                        have q3 := (h8.block _ (lt_of_block Q3.out)).trans Q3.out
                        clear g ownX
                        go_wp2_with ((with_reducible refine wpList_load_row (o := ⟨some 114, _, _, _, _, _⟩) rfl 26 (.tmp 5) rfl _ rfl _ CF (0, 0) _ q3 Tryd.underlying26 rfl hsF ?_))
                        refine (S3.out _ h8).mono ?_
                        rintro e v9 ⟨vY, rfl, ownY, g⟩
                        obtain ⟨aY, kY, rfl, -, -, RY⟩ := RdK.open (OwnI.rd (w := v9) ownY)
                        replace h8 := chain h8 g
                        replace RL := RdK.below RL g (Nat.le_refl _)
                        replace RX := RdK.below RX g (Nat.le_refl _)
                        have LIT := Lib.hid (World.ownsRow_lit (e := 32) (size := 5) v9 #[] 0 (Nat.le_refl _) (by decide) rfl)
                        have bL := (Below.refl v9.heap.size v9).alloc (Nat.le_refl _) (.cells #[] 32)
                        have nX := HX9.out
                        have nY := HY9.out
                        clear g ownY q3
                        go_wp2_with (first
                          | (at_builtin; (with_reducible refine wpList_unguard (o := ⟨some 129, _, _, _, _, _⟩) ?_ ?_); rfl; refine wpList_app_rdk itC_len (by decide) v9 rfl (.tmp 127) (.tmp 128) 22 rfl v9.heap.size 32 i0 (.agg #[.string ⟨#[]⟩, .int .i64 0, .int .i64 0, .string ⟨#[]⟩, .int .i64 0]) 56 Tryd.underlying22 hi hz0 hz1 hz2 rfl (.slice (some ⟨v9.heap.size, 0, none⟩) 0 0) [] rfl LIT.out (.slice aX LX.length kX) LX rfl (RdK.below RX bL (Nat.le_refl _)) itC_one (by unfold maxLen; simp; omega) (by simp; omega) (Nat.le_refl _) bL ?_; intro va wa owna ba qa; clear qa; rw [List.nil_append] at owna; (obtain ⟨a1, k1, rfl, -, -, -⟩ := RdK.open (own_rdk itC_len owna)); (replace RY := RdK.below RY ba (Nat.le_refl _)))
                          | (at_builtin; (with_reducible refine wpList_unguard (o := ⟨some 131, _, _, _, _, _⟩) ?_ ?_); rfl; refine wpList_app_rdk itC_len (by decide) v9 rfl (.tmp 129) (.tmp 130) 22 rfl v9.heap.size 32 i0 (.agg #[.string ⟨#[]⟩, .int .i64 0, .int .i64 0, .string ⟨#[]⟩, .int .i64 0]) 56 Tryd.underlying22 hi hz0 hz1 hz2 rfl (.slice a1 LX.length k1) LX rfl owna (.slice aY LY.length kY) LY rfl RY itC_one (by unfold maxLen; omega) (by omega) (Nat.le_refl _) ba ?_; intro vb wb ownb bb qb; clear qb; rw [J.out] at ownb; (obtain ⟨aT, kT, rfl, -, -, RT⟩ := RdK.open (own_rdk itC_len ownb)); (replace h8 := chain h8 bb); (replace RL := RdK.below RL bb (Nat.le_refl _)); clear owna ownb ba bb RX RY LIT bL)
                          | ((with_reducible refine (SM.out aT kT _ RT RL).mono ?_); rintro e v10 ⟨rfl, n1, hw⟩; (have b1 : Below wb.heap.size wb v10 := (by rw [hw]; exact SAMEB _ n1)); (replace h8 := chain h8 b1); (replace RL := RdK.below RL b1 (Nat.le_refl _)); clear hw b1 RT) | ((with_reducible refine (AW.out _ h8).mono ?_); rintro e uz ⟨rfl, gz⟩; (replace h8 := chain h8 gz)))
                        go_ret
                        exact ⟨rfl, chain BW.out h8⟩
        · have e1 : SL.length = 0 := by rw [HSL.out]; unfold scL; rw [← HE.out, if_neg hc]; rfl
          have d1 : (ez != 0) = true := by rw [HEZ.out]; simp; omega
          have d2 : (ez == 0) = false := by rw [HEZ.out]; simp; omega
          rw [e1]
          clear HSL HBL HE HEZ hc e1 RL q3
          go_wp2_with ((with_reducible refine (AW.out _ h8).mono ?_); rintro e uz ⟨rfl, gz⟩; (replace h8 := chain h8 gz))
          go_ret
          exact ⟨rfl, chain BW.out h8⟩
      · skip
        go_simp
        have qz : (World.alloc y1 (.cells zT 26)).heap[y1.heap.size]? = some (.cells zT 26 (0, 0)) := heap_alloc_new y1 (.cells zT 26)
        have GA0 : W0.heap.size ≤ y1.heap.size := hS.size
        have GAF : y1.heap.size ≤ y1.heap.size := hF.size
        have g := (Below.refl y1.heap.size y1).alloc (Nat.le_refl _) (.cells zT 26)
        have hS : Below W0.heap.size W0 (World.alloc y1 (.cells zT 26)) := hS.alloc hS.size (.cells zT 26)
        have own := own.below g
        have hF := chain hF g
        refine hK _ _ ⟨hS, ?_⟩
        clear hK K g
        obtain ⟨y2, hy⟩ : ∃ W, W = World.alloc y1 (.cells zT 26) := ⟨_, rfl⟩
        rw [← hy] at qz hS own hF ⊢
        clear hy
        try simp only [Act.put, List.setIfInBounds_toArray, List.set_cons_zero, List.set_cons_succ]
        refine gs_run (i := 8) rfl (by kernel_rfl) (by rfl) (fun K hK => ?_)
        go_simp
        refine (ST.out _).mono ?_
        rintro e w' ⟨rfl, rfl⟩
        refine hK _ _ ⟨hS, ?_⟩
        clear hK K
        try simp only [Act.put, List.setIfInBounds_toArray, List.set_cons_zero, List.set_cons_succ]
        refine gs_run (i := 10) rfl (by kernel_rfl) (by rfl) (fun K hK => ?_)
        have hsF := infoTc own.size
        have hzF : zT.size = CF.size := by rw [own.size]; rfl
        have hoF := own.rd.one
        refine wp_store_row 26 (.tmp 5) (.tmp 19) rfl _ CF rfl rfl _ zT qz hsF hzF hoF ?_
        have qn := setRow_heap _ _ _ CF _ _ qz
        have hS := below_row hS GA0 CF
        have hF := below_row hF GAF CF
        refine hK _ _ ⟨hS, ?_⟩
        clear hK K
        obtain ⟨WS, hWS⟩ : ∃ W, W = World.setRow y2 y1.heap.size CF := ⟨_, rfl⟩
        rw [← hWS] at qn hS hF  ⊢
        clear hWS
        have HT := Lib.hid (show RdT WS CF lF vs from RF.out.below hF (Nat.le_refl _))
        have Q3 := Lib.hid qn
        clear qz qn hF own RF hsF hzF hoF GAF
        try simp only [Act.put, List.setIfInBounds_toArray, List.set_cons_zero, List.set_cons_succ]
        refine gs_take (i := 11) (d := (some 6)) (v := ?_) rfl rfl (by kernel_rfl) (fun _ _ _ h => h) (by rfl) hS (fun w' hb' => ?_) ?_
        rotate_left
        · (try go_simp); (try with_reducible rfl)
        try simp only [Act.put, List.setIfInBounds_toArray, List.set_cons_zero, List.set_cons_succ]
        refine gs_take (i := 12) (d := (some 7)) (v := ?_) rfl rfl (by kernel_rfl) (fun _ _ _ h => h) (by rfl) hS (fun w' hb' => ?_) ?_
        rotate_left
        · (try go_simp); (try with_reducible rfl)
        try simp only [Act.put, List.setIfInBounds_toArray, List.set_cons_zero, List.set_cons_succ]
        refine gs_done (by kernel_rfl) ?_
        have GAW : w.heap.size < y1.heap.size := by have := lt_of_block Q1.out; omega
        obtain ⟨ga, hga⟩ : ∃ ga, ga = y1.heap.size := ⟨_, rfl⟩
        rw [← hga] at GAW Q3 ⊢
        clear hga GA0
        have hsF := infoTc HT.out.size
        have BW := Lib.hid (chain BEL.out hS)
        have TS := Lib.hid (TAB.out.below BW.out)
        have h8 := Below.refl WS.heap.size WS
        clear PT FW C32 C33 C34 SF ST hS z0 z1 hs0
        have S10 := fun W (g : Below WS.heap.size WS W) => scan_any CF lF vs fs ts 2000 W (TS.out.below g) (HT.out.below g (Nat.le_refl _)) szF ff tt
        have S20 := fun W (g : Below WS.heap.size WS W) => scan_any CF lF vs fs ks 2000 W (TS.out.below g) (HT.out.below g (Nat.le_refl _)) szF ff kk
        have S30 := fun W (g : Below WS.heap.size WS W) => scan_any CF lF vs ks ts 2000 W (TS.out.below g) (HT.out.below g (Nat.le_refl _)) szF kk tt
        have B10 := fun W (g : Below WS.heap.size WS W) => back_any CF lF vs fs ts 2000 W (TS.out.below g) (HT.out.below g (Nat.le_refl _)) szF ff tt
        have AW := Lib.hid (fun W (g : Below WS.heap.size WS W) => awake11_any W (TS.out.below g))
        obtain ⟨SL, hSL⟩ : ∃ X, X = scL lF vs fs ts 2000 := ⟨_, rfl⟩
        obtain ⟨BL, hBL⟩ : ∃ X, X = (scL lF vs fs ts 1024).reverse.take (2000 : Int).toNat := ⟨_, rfl⟩
        obtain ⟨E, hE⟩ : ∃ X, X = ckE lF vs [fs, ts] := ⟨_, rfl⟩
        obtain ⟨ez, hez⟩ : ∃ z : Int, z = (E : Int) := ⟨_, rfl⟩
        rw [← hSL, ← hE, ← hez] at S10
        rw [← hBL, ← hE, ← hez] at B10
        have S1 := Lib.hid S10
        have B1 := Lib.hid B10
        have HSL := Lib.hid hSL
        have HBL := Lib.hid hBL
        have HE := Lib.hid hE
        have HEZ := Lib.hid hez
        clear S10 B10 hSL hBL hE hez
        have S2 := Lib.hid S20
        have S3 := Lib.hid S30
        clear S20 S30
        go_wp2_with fail
        refine (SK.out _).mono ?_
        rintro e w' ⟨rfl, rfl⟩
        have q3 := Q3.out
        go_wp2_with ((with_reducible refine wpList_load_row (o := ⟨some 29, _, _, _, _, _⟩) rfl 26 (.tmp 5) rfl _ rfl _ CF (0, 0) _ q3 Tryd.underlying26 rfl hsF ?_))
        refine (S1.out _ h8).mono ?_
        rintro e v1 ⟨vL, rfl, ownL, g⟩
        obtain ⟨aL, kL, rfl, -, -, RL⟩ := RdK.open (OwnI.rd (w := v1) ownL)
        replace h8 := chain h8 g
        replace q3 := (h8.block _ (lt_of_block Q3.out)).trans Q3.out
        clear g ownL S1 SK
        by_cases hc : E = 0
        · have hmp : mayTs lF vs 16 = true ∧ patB fs = true ∧ patB ts = true := by
            have h0 := HE.out.symm.trans hc
            cases hm : mayTs lF vs 16 with
            | false => rw [ck_no hm] at h0; exact absurd h0 (by decide)
            | true =>
              cases hp : ([fs, ts] : List (List UInt8)).all patB with
              | true => exact ⟨rfl, by simpa using hp⟩
              | false => rw [ck_form hm hp] at h0; exact absurd h0 (by decide)
          obtain ⟨hmy, hpf, hpt⟩ := hmp
          have s0 : SL = rngL lF fs ts := by
            rw [HSL.out]; unfold scL; rw [← HE.out, if_pos hc]
            exact List.take_of_length_le (Nat.le_trans (rng_len hmy _ _) (by decide))
          have e2 : BL.reverse = SL := by
            rw [HBL.out, sc_full (HE.out.symm.trans hc), s0, List.take_of_length_le (by rw [List.length_reverse]; exact Nat.le_trans (rng_len hmy _ _) (by decide)), List.reverse_reverse]
          have HN := Lib.hid (show SL.length ≤ 1024 by rw [s0]; exact rng_len hmy _ _)
          have HB := Lib.hid (show BL.length ≤ 1024 by have := congrArg List.length e2; rw [List.length_reverse] at this; rw [this]; exact HN.out)
          have HSZ := Lib.hid (show ∀ x ∈ SL, x.key.length ≤ maxLen from fun x hx => by rw [s0] at hx; exact (allS_sz szF _ ((rng_mem hmy).1 hx).1).1)
          have HST := Lib.hid (show SrtI SL by rw [s0]; exact rng_sorted hmy _ _)
          have HS0 := Lib.hid s0
          have HE2 := Lib.hid e2
          have e5 : ez = 0 := by rw [HEZ.out, hc]; rfl
          have SAMEB : ∀ (W : World) (k : Nat), Below W.heap.size W (W.drewN k) := fun W k => below_drewN (Below.refl W.heap.size W)
          have PQ0 := fun W (t : TabAt W) => refPattern_any ks kk W t
          clear s0 e2 HSL HBL HE HEZ hc
          subst e5
          cases hp : patB ks with
          | false =>
            rw [hp] at PQ0
            have PQ := Lib.hid PQ0
            clear PQ0 hp
            go_wp2_with (first | ((with_reducible refine (PQ.out _ (TS.out.below h8)).mono ?_); rintro e w' ⟨rfl, rfl⟩) | ((with_reducible refine (AW.out _ h8).mono ?_); rintro e uz ⟨rfl, gz⟩; (replace h8 := chain h8 gz)))
            go_ret
            exact ⟨rfl, chain BW.out h8⟩
          | true =>
            rw [hp] at PQ0
            have PQ := Lib.hid PQ0
            clear PQ0
            go_wp2_with (first | ((with_reducible refine (PQ.out _ (TS.out.below h8)).mono ?_); rintro e w' ⟨rfl, rfl⟩) | ((with_reducible refine wpList_load_row (o := ⟨some 53, _, _, _, _, _⟩) rfl 26 (.tmp 5) rfl _ rfl _ CF (0, 0) _ q3 Tryd.underlying26 rfl hsF ?_)))
            refine (B1.out _ h8).mono ?_
            rintro e v2 ⟨vB, rfl, ownB, g⟩
            obtain ⟨aB, kB, rfl, -, -, RB⟩ := RdK.open (OwnI.rd (w := v2) ownB)
            replace h8 := chain h8 g
            replace RL := RdK.below RL g (Nat.le_refl _)
            have TN0 := fun W (h : RdK 5 itC W (.slice aB BL.length kB) BL) => turned_any (.slice aB BL.length kB) BL W h (by have := HB.out; omega)
            rw [HE2.out] at TN0
            have TN := Lib.hid TN0
            have SM := Lib.hid (fun (aT : Option Addr) (kT : Nat) W (h : RdK 5 itC W (.slice aT SL.length kT) SL) (h2 : RdK 5 itC W (.slice aL SL.length kL) SL) => refSame11_yes (.slice aT SL.length kT) (.slice aL SL.length kL) SL W h h2 (by have := HN.out; omega))
            clear g ownB q3 TN0 B1
            go_wp2_with (first | ((with_reducible refine (TN.out _ RB).mono ?_); rintro e v3 ⟨vT, rfl, ownT, g⟩; (obtain ⟨aT, kT, rfl, -, -, RT⟩ := RdK.open (OwnI.rd (w := v3) ownT)); (replace h8 := chain h8 g); (replace RL := RdK.below RL g (Nat.le_refl _)); clear g ownT RB) | ((with_reducible refine (SM.out aT kT _ RT RL).mono ?_); rintro e v4 ⟨rfl, n1, hw⟩; (have b1 : Below v3.heap.size v3 v4 := (by rw [hw]; exact SAMEB _ n1)); (replace h8 := chain h8 b1); (replace RL := RdK.below RL b1 (Nat.le_refl _)); clear hw b1 RT))
            have HRL := Lib.hid RL
            have H8 := Lib.hid h8
            have hn := HN.out
            clear RL h8 TN PQ
            go_loopw [12] (fun i wr => ∃ (j n0 : Nat), j ≤ SL.length ∧ i = .int .i64 (j : Int) ∧ Hid (wr = v4.drewN n0)) (fun i _ => 4000 - (intOf i).toNat)
            case atStart => exact ⟨0, 0, Nat.zero_le _, rfl, (rfl : v4 = v4.drewN 0)⟩
            case round =>
              obtain ⟨j, n0, hj, rfl, HW⟩ := hrel
              have e69 : IntKind.i64.wrap ((j : Int) + 1) = ((j + 1 : Nat) : Int) := by rw [IntKind.wrap_i64]; omega
              have bel : Below v4.heap.size v4 wr := by rw [HW.out]; exact below_drewN (Below.refl _ _)
              by_cases hlt : j + 1 < SL.length
              · have R1 : RdI wr (.slice aL SL.length kL) SL := RdK.below HRL.out bel (Nat.le_refl _)
                obtain ⟨b, off, hbo, hb, c0, -, -, -, -⟩ := rdi_cells R1 j (by omega)
                obtain ⟨b2, off2, hbo2, hb2, d0, -, -, -, -⟩ := rdi_cells R1 (j + 1) hlt
                rw [hbo] at hbo2
                cases hbo2
                obtain ⟨x, hx⟩ : ∃ x, x = SL[j]'(by omega) := ⟨_, rfl⟩
                obtain ⟨y, hy⟩ : ∃ x, x = SL[j + 1]'hlt := ⟨_, rfl⟩
                rw [← hx] at c0
                rw [← hy] at d0
                have hxl : x.key.length ≤ maxLen := by rw [hx]; exact HSZ.out _ (List.getElem_mem _)
                have hyl : y.key.length ≤ maxLen := by rw [hy]; exact HSZ.out _ (List.getElem_mem _)
                have ho : ltB x.key y.key = true := by rw [hx, hy]; exact (List.pairwise_iff_getElem.1 HST.out) j (j + 1) (by omega) hlt (by omega)
                have AQ0 := fun W => ahead_q x.key y.key W hxl hyl
                simp only [ho] at AQ0
                have AQH := Lib.hid AQ0
                clear hx hy AQ0 ho R1 hxl hyl bel
                rw [hbo]
                go_wp2_with fail
                go_quiet ((go_at_call 52; exact Calls.quiet_of (AQH.out _)))
                have bel2 : Hid (wr.drewN nq = v4.drewN (n0 + nq)) := by have h := HW.out; exact Lib.hid (by rw [h, World.drewN_drewN])
                go_wp2_with fail
                exact ⟨⟨j + 1, n0 + nq, by omega, by push_cast; rfl, bel2⟩, by simp [intOf]; omega⟩
              · have RL : RdK 5 itC wr (.slice aL SL.length kL) SL := RdK.below HRL.out bel (Nat.le_refl _)
                have h8 := chain H8.out bel
                have a10 := fun W (t : TabAt W) => ahead_any ks fs kk ff W t
                have a20 := fun W (t : TabAt W) => ahead_any ks ts kk tt W t
                have hk0 := emp_eq ks
                have ht0 := emp_eq ts
                clear bel HW
                by_cases hkn : ks = []
                · simp only [hkn, decide_true] at hk0
                  rw [← hkn] at hk0
                  clear hkn a10 a20
                  go_wp2_with ((with_reducible refine (AW.out _ h8).mono ?_); rintro e uz ⟨rfl, gz⟩; (replace h8 := chain h8 gz))
                  go_ret
                  exact ⟨rfl, chain BW.out h8⟩
                · simp only [hkn, decide_false] at hk0
                  cases h1 : ltB ks fs with
                  | true =>
                    rw [h1] at a10
                    have A1 := Lib.hid a10
                    clear a10 a20 h1
                    go_wp2_with (first | ((with_reducible refine (A1.out _ (TS.out.below h8)).mono ?_); rintro e w7 ⟨rfl, g⟩; (replace h8 := chain h8 g); (replace RL := RdK.below RL g (Nat.le_refl _)); clear g) | ((with_reducible refine (AW.out _ h8).mono ?_); rintro e uz ⟨rfl, gz⟩; (replace h8 := chain h8 gz)))
                    go_ret
                    exact ⟨rfl, chain BW.out h8⟩
                  | false =>
                    rw [h1] at a10
                    have A1 := Lib.hid a10
                    clear a10
                    have c2 : ((ckE lF vs [fs, ks] : Nat) : Int) = 0 := by rw [ck_ok hmy (by simp [hpf, hp])]; rfl
                    have c3 : ((ckE lF vs [ks, ts] : Nat) : Int) = 0 := by rw [ck_ok hmy (by simp [hpt, hp])]; rfl
                    obtain ⟨LX, hLX⟩ : ∃ X, X = scL lF vs fs ks 2000 := ⟨_, rfl⟩
                    obtain ⟨LY, hLY⟩ : ∃ X, X = scL lF vs ks ts 2000 := ⟨_, rfl⟩
                    have x1 : LX = rngL lF fs ks := by
                      rw [hLX]; unfold scL; rw [ck_ok hmy (by simp [hpf, hp]), if_pos rfl]
                      exact List.take_of_length_le (Nat.le_trans (rng_len hmy _ _) (by decide))
                    have y1 : LY = rngL lF ks ts := by
                      rw [hLY]; unfold scL; rw [ck_ok hmy (by simp [hpt, hp]), if_pos rfl]
                      exact List.take_of_length_le (Nat.le_trans (rng_len hmy _ _) (by decide))
                    have s2 := S2.out
                    have s3 := S3.out
                    rw [c2, ← hLX] at s2
                    rw [c3, ← hLY] at s3
                    replace S2 := Lib.hid s2
                    replace S3 := Lib.hid s3
                    have HX9 := Lib.hid (show LX.length ≤ 1024 by rw [x1]; exact rng_len hmy _ _)
                    have HY9 := Lib.hid (show LY.length ≤ 1024 by rw [y1]; exact rng_len hmy _ _)
                    have JN : ts = [] ∨ ltB ks ts = true → LX ++ LY = SL := fun h => by rw [x1, y1, HS0.out]; exact rng_cut hmy hkn h1 h
                    clear c2 c3 hLX hLY x1 y1 s2 s3 h1
                    by_cases htn : ts = []
                    · have J := Lib.hid (JN (.inl htn))
                      simp only [htn, decide_true] at ht0
                      rw [← htn] at ht0
                      clear JN htn hkn a20
                      go_wp2_with (first | ((with_reducible refine (A1.out _ (TS.out.below h8)).mono ?_); rintro e w7 ⟨rfl, g⟩; (replace h8 := chain h8 g); (replace RL := RdK.below RL g (Nat.le_refl _)); clear g) | ((have q3 := (h8.block _ (lt_of_block Q3.out)).trans Q3.out); ((with_reducible refine wpList_load_row (o := ⟨some 107, _, _, _, _, _⟩) rfl 26 (.tmp 5) rfl _ rfl _ CF (0, 0) _ q3 Tryd.underlying26 rfl hsF ?_))))
                      refine (S2.out _ h8).mono ?_
                      rintro e v8 ⟨vX, rfl, ownX, g⟩
                      obtain ⟨aX, kX, rfl, -, -, RX⟩ := RdK.open (OwnI.rd (w := v8) ownX)
                      replace h8 := chain h8 g
                      replace RL := RdK.below RL g (Nat.le_refl _)
                      have q3 := (h8.block _ (lt_of_block Q3.out)).trans Q3.out
                      clear g ownX
                      go_wp2_with ((with_reducible refine wpList_load_row (o := ⟨some 114, _, _, _, _, _⟩) rfl 26 (.tmp 5) rfl _ rfl _ CF (0, 0) _ q3 Tryd.underlying26 rfl hsF ?_))
                      refine (S3.out _ h8).mono ?_
                      rintro e v9 ⟨vY, rfl, ownY, g⟩
                      obtain ⟨aY, kY, rfl, -, -, RY⟩ := RdK.open (OwnI.rd (w := v9) ownY)
                      replace h8 := chain h8 g
                      replace RL := RdK.below RL g (Nat.le_refl _)
                      replace RX := RdK.below RX g (Nat.le_refl _)
                      have LIT := Lib.hid (World.ownsRow_lit (e := 32) (size := 5) v9 #[] 0 (Nat.le_refl _) (by decide) rfl)
                      have bL := (Below.refl v9.heap.size v9).alloc (Nat.le_refl _) (.cells #[] 32)
                      have nX := HX9.out
                      have nY := HY9.out
                      clear g ownY q3
                      go_wp2_with (first
                        | (at_builtin; (with_reducible refine wpList_unguard (o := ⟨some 129, _, _, _, _, _⟩) ?_ ?_); rfl; refine wpList_app_rdk itC_len (by decide) v9 rfl (.tmp 127) (.tmp 128) 22 rfl v9.heap.size 32 i0 (.agg #[.string ⟨#[]⟩, .int .i64 0, .int .i64 0, .string ⟨#[]⟩, .int .i64 0]) 56 Tryd.underlying22 hi hz0 hz1 hz2 rfl (.slice (some ⟨v9.heap.size, 0, none⟩) 0 0) [] rfl LIT.out (.slice aX LX.length kX) LX rfl (RdK.below RX bL (Nat.le_refl _)) itC_one (by unfold maxLen; simp; omega) (by simp; omega) (Nat.le_refl _) bL ?_; intro va wa owna ba qa; clear qa; rw [List.nil_append] at owna; (obtain ⟨a1, k1, rfl, -, -, -⟩ := RdK.open (own_rdk itC_len owna)); (replace RY := RdK.below RY ba (Nat.le_refl _)))
                        | (at_builtin; (with_reducible refine wpList_unguard (o := ⟨some 131, _, _, _, _, _⟩) ?_ ?_); rfl; refine wpList_app_rdk itC_len (by decide) v9 rfl (.tmp 129) (.tmp 130) 22 rfl v9.heap.size 32 i0 (.agg #[.string ⟨#[]⟩, .int .i64 0, .int .i64 0, .string ⟨#[]⟩, .int .i64 0]) 56 Tryd.underlying22 hi hz0 hz1 hz2 rfl (.slice a1 LX.length k1) LX rfl owna (.slice aY LY.length kY) LY rfl RY itC_one (by unfold maxLen; omega) (by omega) (Nat.le_refl _) ba ?_; intro vb wb ownb bb qb; clear qb; rw [J.out] at ownb; (obtain ⟨aT, kT, rfl, -, -, RT⟩ := RdK.open (own_rdk itC_len ownb)); (replace h8 := chain h8 bb); (replace RL := RdK.below RL bb (Nat.le_refl _)); clear owna ownb ba bb RX RY LIT bL)
                        | ((with_reducible refine (SM.out aT kT _ RT RL).mono ?_); rintro e v10 ⟨rfl, n1, hw⟩; (have b1 : Below wb.heap.size wb v10 := (by rw [hw]; exact SAMEB _ n1)); (replace h8 := chain h8 b1); (replace RL := RdK.below RL b1 (Nat.le_refl _)); clear hw b1 RT) | ((with_reducible refine (AW.out _ h8).mono ?_); rintro e uz ⟨rfl, gz⟩; (replace h8 := chain h8 gz)))
                      go_ret
                      exact ⟨rfl, chain BW.out h8⟩
                    · simp only [htn, decide_false] at ht0
                      cases h2 : ltB ks ts with
                      | false =>
                        rw [h2] at a20
                        have A2 := Lib.hid a20
                        clear a20 JN h2 htn hkn
                        go_wp2_with (first | ((with_reducible refine (A1.out _ (TS.out.below h8)).mono ?_); rintro e w7 ⟨rfl, g⟩; (replace h8 := chain h8 g); (replace RL := RdK.below RL g (Nat.le_refl _)); clear g) | ((with_reducible refine (A2.out _ (TS.out.below h8)).mono ?_); rintro e w7 ⟨rfl, g⟩; (replace h8 := chain h8 g); (replace RL := RdK.below RL g (Nat.le_refl _)); clear g) | ((with_reducible refine (AW.out _ h8).mono ?_); rintro e uz ⟨rfl, gz⟩; (replace h8 := chain h8 gz)))
                        go_ret
                        exact ⟨rfl, chain BW.out h8⟩
                      | true =>
                        rw [h2] at a20
                        have A2 := Lib.hid a20
                        have J := Lib.hid (JN (.inr h2))
                        clear a20 JN h2 htn hkn
                        go_wp2_with (first | ((with_reducible refine (A1.out _ (TS.out.below h8)).mono ?_); rintro e w7 ⟨rfl, g⟩; (replace h8 := chain h8 g); (replace RL := RdK.below RL g (Nat.le_refl _)); clear g) | ((with_reducible refine (A2.out _ (TS.out.below h8)).mono ?_); rintro e w7 ⟨rfl, g⟩; (replace h8 := chain h8 g); (replace RL := RdK.below RL g (Nat.le_refl _)); clear g) | ((have q3 := (h8.block _ (lt_of_block Q3.out)).trans Q3.out); ((with_reducible refine wpList_load_row (o := ⟨some 107, _, _, _, _, _⟩) rfl 26 (.tmp 5) rfl _ rfl _ CF (0, 0) _ q3 Tryd.underlying26 rfl hsF ?_))))
                        refine (S2.out _ h8).mono ?_
                        rintro e v8 ⟨vX, rfl, ownX, g⟩
                        obtain ⟨aX, kX, rfl, -, -, RX⟩ := RdK.open (OwnI.rd (w := v8) ownX)
                        replace h8 := chain h8 g
                        replace RL := RdK.below RL g (Nat.le_refl _)
                        have q3 := (h8.block _ (lt_of_block Q3.out)).trans Q3.out
                        clear g ownX
                        go_wp2_with ((with_reducible refine wpList_load_row (o := ⟨some 114, _, _, _, _, _⟩) rfl 26 (.tmp 5) rfl _ rfl _ CF (0, 0) _ q3 Tryd.underlying26 rfl hsF ?_))
                        refine (S3.out _ h8).mono ?_
                        rintro e v9 ⟨vY, rfl, ownY, g⟩
                        obtain ⟨aY, kY, rfl, -, -, RY⟩ := RdK.open (OwnI.rd (w := v9) ownY)
                        replace h8 := chain h8 g
                        replace RL := RdK.below RL g (Nat.le_refl _)
                        replace RX := RdK.below RX g (Nat.le_refl _)
                        have LIT := Lib.hid (World.ownsRow_lit (e := 32) (size := 5) v9 #[] 0 (Nat.le_refl _) (by decide) rfl)
                        have bL := (Below.refl v9.heap.size v9).alloc (Nat.le_refl _) (.cells #[] 32)
                        have nX := HX9.out
                        have nY := HY9.out
                        clear g ownY q3
                        go_wp2_with (first
                          | (at_builtin; (with_reducible refine wpList_unguard (o := ⟨some 129, _, _, _, _, _⟩) ?_ ?_); rfl; refine wpList_app_rdk itC_len (by decide) v9 rfl (.tmp 127) (.tmp 128) 22 rfl v9.heap.size 32 i0 (.agg #[.string ⟨#[]⟩, .int .i64 0, .int .i64 0, .string ⟨#[]⟩, .int .i64 0]) 56 Tryd.underlying22 hi hz0 hz1 hz2 rfl (.slice (some ⟨v9.heap.size, 0, none⟩) 0 0) [] rfl LIT.out (.slice aX LX.length kX) LX rfl (RdK.below RX bL (Nat.le_refl _)) itC_one (by unfold maxLen; simp; omega) (by simp; omega) (Nat.le_refl _) bL ?_; intro va wa owna ba qa; clear qa; rw [List.nil_append] at owna; (obtain ⟨a1, k1, rfl, -, -, -⟩ := RdK.open (own_rdk itC_len owna)); (replace RY := RdK.below RY ba (Nat.le_refl _)))
                          | (at_builtin; (with_reducible refine wpList_unguard (o := ⟨some 131, _, _, _, _, _⟩) ?_ ?_); rfl; refine wpList_app_rdk itC_len (by decide) v9 rfl (.tmp 129) (.tmp 130) 22 rfl v9.heap.size 32 i0 (.agg #[.string ⟨#[]⟩, .int .i64 0, .int .i64 0, .string ⟨#[]⟩, .int .i64 0]) 56 Tryd.underlying22 hi hz0 hz1 hz2 rfl (.slice a1 LX.length k1) LX rfl owna (.slice aY LY.length kY) LY rfl RY itC_one (by unfold maxLen; omega) (by omega) (Nat.le_refl _) ba ?_; intro vb wb ownb bb qb; clear qb; rw [J.out] at ownb; (obtain ⟨aT, kT, rfl, -, -, RT⟩ := RdK.open (own_rdk itC_len ownb)); (replace h8 := chain h8 bb); (replace RL := RdK.below RL bb (Nat.le_refl _)); clear owna ownb ba bb RX RY LIT bL)
                          | ((with_reducible refine (SM.out aT kT _ RT RL).mono ?_); rintro e v10 ⟨rfl, n1, hw⟩; (have b1 : Below wb.heap.size wb v10 := (by rw [hw]; exact SAMEB _ n1)); (replace h8 := chain h8 b1); (replace RL := RdK.below RL b1 (Nat.le_refl _)); clear hw b1 RT) | ((with_reducible refine (AW.out _ h8).mono ?_); rintro e uz ⟨rfl, gz⟩; (replace h8 := chain h8 gz)))
                        go_ret
                        exact ⟨rfl, chain BW.out h8⟩
        · have e1 : SL.length = 0 := by rw [HSL.out]; unfold scL; rw [← HE.out, if_neg hc]; rfl
          have d1 : (ez != 0) = true := by rw [HEZ.out]; simp; omega
          have d2 : (ez == 0) = false := by rw [HEZ.out]; simp; omega
          rw [e1]
          clear HSL HBL HE HEZ hc e1 RL q3
          go_wp2_with ((with_reducible refine (AW.out _ h8).mono ?_); rintro e uz ⟨rfl, gz⟩; (replace h8 := chain h8 gz))
          go_ret
          exact ⟨rfl, chain BW.out h8⟩
    · skip
      go_simp
      have qz : (World.alloc y1 (.cells zT 26)).heap[y1.heap.size]? = some (.cells zT 26 (0, 0)) := heap_alloc_new y1 (.cells zT 26)
      have GA0 : W0.heap.size ≤ y1.heap.size := hS.size
      have GAF : y1.heap.size ≤ y1.heap.size := hF.size
      have g := (Below.refl y1.heap.size y1).alloc (Nat.le_refl _) (.cells zT 26)
      have hS : Below W0.heap.size W0 (World.alloc y1 (.cells zT 26)) := hS.alloc hS.size (.cells zT 26)
      have own := own.below g
      have hF := chain hF g
      refine hK _ _ ⟨hS, ?_⟩
      clear hK K g
      obtain ⟨y2, hy⟩ : ∃ W, W = World.alloc y1 (.cells zT 26) := ⟨_, rfl⟩
      rw [← hy] at qz hS own hF ⊢
      clear hy
      try simp only [Act.put, List.setIfInBounds_toArray, List.set_cons_zero, List.set_cons_succ]
      refine gs_run (i := 5) rfl (by kernel_rfl) (by rfl) (fun K hK => ?_)
      go_simp
      refine (SF.out _).mono ?_
      rintro e w' ⟨rfl, rfl⟩
      refine hK _ _ ⟨hS, ?_⟩
      clear hK K
      try simp only [Act.put, List.setIfInBounds_toArray, List.set_cons_zero, List.set_cons_succ]
      refine gs_run (i := 8) rfl (by kernel_rfl) (by rfl) (fun K hK => ?_)
      go_simp
      refine (ST.out _).mono ?_
      rintro e w' ⟨rfl, rfl⟩
      refine hK _ _ ⟨hS, ?_⟩
      clear hK K
      try simp only [Act.put, List.setIfInBounds_toArray, List.set_cons_zero, List.set_cons_succ]
      refine gs_run (i := 10) rfl (by kernel_rfl) (by rfl) (fun K hK => ?_)
      have hsF := infoTc own.size
      have hzF : zT.size = CF.size := by rw [own.size]; rfl
      have hoF := own.rd.one
      refine wp_store_row 26 (.tmp 5) (.tmp 19) rfl _ CF rfl rfl _ zT qz hsF hzF hoF ?_
      have qn := setRow_heap _ _ _ CF _ _ qz
      have hS := below_row hS GA0 CF
      have hF := below_row hF GAF CF
      refine hK _ _ ⟨hS, ?_⟩
      clear hK K
      obtain ⟨WS, hWS⟩ : ∃ W, W = World.setRow y2 y1.heap.size CF := ⟨_, rfl⟩
      rw [← hWS] at qn hS hF  ⊢
      clear hWS
      have HT := Lib.hid (show RdT WS CF lF vs from RF.out.below hF (Nat.le_refl _))
      have Q3 := Lib.hid qn
      clear qz qn hF own RF hsF hzF hoF GAF
      try simp only [Act.put, List.setIfInBounds_toArray, List.set_cons_zero, List.set_cons_succ]
      refine gs_take (i := 11) (d := (some 6)) (v := ?_) rfl rfl (by kernel_rfl) (fun _ _ _ h => h) (by rfl) hS (fun w' hb' => ?_) ?_
      rotate_left
      · (try go_simp); (try with_reducible rfl)
      try simp only [Act.put, List.setIfInBounds_toArray, List.set_cons_zero, List.set_cons_succ]
      refine gs_take (i := 12) (d := (some 7)) (v := ?_) rfl rfl (by kernel_rfl) (fun _ _ _ h => h) (by rfl) hS (fun w' hb' => ?_) ?_
      rotate_left
      · (try go_simp); (try with_reducible rfl)
      try simp only [Act.put, List.setIfInBounds_toArray, List.set_cons_zero, List.set_cons_succ]
      refine gs_done (by kernel_rfl) ?_
      have GAW : w.heap.size < y1.heap.size := by have := lt_of_block Q1.out; omega
      obtain ⟨ga, hga⟩ : ∃ ga, ga = y1.heap.size := ⟨_, rfl⟩
      rw [← hga] at GAW Q3 ⊢
      clear hga GA0
      have hsF := infoTc HT.out.size
      have BW := Lib.hid (chain BEL.out hS)
      have TS := Lib.hid (TAB.out.below BW.out)
      have h8 := Below.refl WS.heap.size WS
      clear PT FW C32 C33 C34 SF ST hS z0 z1 hs0
      have S10 := fun W (g : Below WS.heap.size WS W) => scan_any CF lF vs fs ts 2000 W (TS.out.below g) (HT.out.below g (Nat.le_refl _)) szF ff tt
      have S20 := fun W (g : Below WS.heap.size WS W) => scan_any CF lF vs fs ks 2000 W (TS.out.below g) (HT.out.below g (Nat.le_refl _)) szF ff kk
      have S30 := fun W (g : Below WS.heap.size WS W) => scan_any CF lF vs ks ts 2000 W (TS.out.below g) (HT.out.below g (Nat.le_refl _)) szF kk tt
      have B10 := fun W (g : Below WS.heap.size WS W) => back_any CF lF vs fs ts 2000 W (TS.out.below g) (HT.out.below g (Nat.le_refl _)) szF ff tt
      have AW := Lib.hid (fun W (g : Below WS.heap.size WS W) => awake11_any W (TS.out.below g))
      obtain ⟨SL, hSL⟩ : ∃ X, X = scL lF vs fs ts 2000 := ⟨_, rfl⟩
      obtain ⟨BL, hBL⟩ : ∃ X, X = (scL lF vs fs ts 1024).reverse.take (2000 : Int).toNat := ⟨_, rfl⟩
      obtain ⟨E, hE⟩ : ∃ X, X = ckE lF vs [fs, ts] := ⟨_, rfl⟩
      obtain ⟨ez, hez⟩ : ∃ z : Int, z = (E : Int) := ⟨_, rfl⟩
      rw [← hSL, ← hE, ← hez] at S10
      rw [← hBL, ← hE, ← hez] at B10
      have S1 := Lib.hid S10
      have B1 := Lib.hid B10
      have HSL := Lib.hid hSL
      have HBL := Lib.hid hBL
      have HE := Lib.hid hE
      have HEZ := Lib.hid hez
      clear S10 B10 hSL hBL hE hez
      have S2 := Lib.hid S20
      have S3 := Lib.hid S30
      clear S20 S30
      go_wp2_with fail
      refine (SK.out _).mono ?_
      rintro e w' ⟨rfl, rfl⟩
      have q3 := Q3.out
      go_wp2_with ((with_reducible refine wpList_load_row (o := ⟨some 29, _, _, _, _, _⟩) rfl 26 (.tmp 5) rfl _ rfl _ CF (0, 0) _ q3 Tryd.underlying26 rfl hsF ?_))
      refine (S1.out _ h8).mono ?_
      rintro e v1 ⟨vL, rfl, ownL, g⟩
      obtain ⟨aL, kL, rfl, -, -, RL⟩ := RdK.open (OwnI.rd (w := v1) ownL)
      replace h8 := chain h8 g
      replace q3 := (h8.block _ (lt_of_block Q3.out)).trans Q3.out
      clear g ownL S1 SK
      by_cases hc : E = 0
      · have hmp : mayTs lF vs 16 = true ∧ patB fs = true ∧ patB ts = true := by
          have h0 := HE.out.symm.trans hc
          cases hm : mayTs lF vs 16 with
          | false => rw [ck_no hm] at h0; exact absurd h0 (by decide)
          | true =>
            cases hp : ([fs, ts] : List (List UInt8)).all patB with
            | true => exact ⟨rfl, by simpa using hp⟩
            | false => rw [ck_form hm hp] at h0; exact absurd h0 (by decide)
        obtain ⟨hmy, hpf, hpt⟩ := hmp
        have s0 : SL = rngL lF fs ts := by
          rw [HSL.out]; unfold scL; rw [← HE.out, if_pos hc]
          exact List.take_of_length_le (Nat.le_trans (rng_len hmy _ _) (by decide))
        have e2 : BL.reverse = SL := by
          rw [HBL.out, sc_full (HE.out.symm.trans hc), s0, List.take_of_length_le (by rw [List.length_reverse]; exact Nat.le_trans (rng_len hmy _ _) (by decide)), List.reverse_reverse]
        have HN := Lib.hid (show SL.length ≤ 1024 by rw [s0]; exact rng_len hmy _ _)
        have HB := Lib.hid (show BL.length ≤ 1024 by have := congrArg List.length e2; rw [List.length_reverse] at this; rw [this]; exact HN.out)
        have HSZ := Lib.hid (show ∀ x ∈ SL, x.key.length ≤ maxLen from fun x hx => by rw [s0] at hx; exact (allS_sz szF _ ((rng_mem hmy).1 hx).1).1)
        have HST := Lib.hid (show SrtI SL by rw [s0]; exact rng_sorted hmy _ _)
        have HS0 := Lib.hid s0
        have HE2 := Lib.hid e2
        have e5 : ez = 0 := by rw [HEZ.out, hc]; rfl
        have SAMEB : ∀ (W : World) (k : Nat), Below W.heap.size W (W.drewN k) := fun W k => below_drewN (Below.refl W.heap.size W)
        have PQ0 := fun W (t : TabAt W) => refPattern_any ks kk W t
        clear s0 e2 HSL HBL HE HEZ hc
        subst e5
        cases hp : patB ks with
        | false =>
          rw [hp] at PQ0
          have PQ := Lib.hid PQ0
          clear PQ0 hp
          go_wp2_with (first | ((with_reducible refine (PQ.out _ (TS.out.below h8)).mono ?_); rintro e w' ⟨rfl, rfl⟩) | ((with_reducible refine (AW.out _ h8).mono ?_); rintro e uz ⟨rfl, gz⟩; (replace h8 := chain h8 gz)))
          go_ret
          exact ⟨rfl, chain BW.out h8⟩
        | true =>
          rw [hp] at PQ0
          have PQ := Lib.hid PQ0
          clear PQ0
          go_wp2_with (first | ((with_reducible refine (PQ.out _ (TS.out.below h8)).mono ?_); rintro e w' ⟨rfl, rfl⟩) | ((with_reducible refine wpList_load_row (o := ⟨some 53, _, _, _, _, _⟩) rfl 26 (.tmp 5) rfl _ rfl _ CF (0, 0) _ q3 Tryd.underlying26 rfl hsF ?_)))
          refine (B1.out _ h8).mono ?_
          rintro e v2 ⟨vB, rfl, ownB, g⟩
          obtain ⟨aB, kB, rfl, -, -, RB⟩ := RdK.open (OwnI.rd (w := v2) ownB)
          replace h8 := chain h8 g
          replace RL := RdK.below RL g (Nat.le_refl _)
          have TN0 := fun W (h : RdK 5 itC W (.slice aB BL.length kB) BL) => turned_any (.slice aB BL.length kB) BL W h (by have := HB.out; omega)
          rw [HE2.out] at TN0
          have TN := Lib.hid TN0
          have SM := Lib.hid (fun (aT : Option Addr) (kT : Nat) W (h : RdK 5 itC W (.slice aT SL.length kT) SL) (h2 : RdK 5 itC W (.slice aL SL.length kL) SL) => refSame11_yes (.slice aT SL.length kT) (.slice aL SL.length kL) SL W h h2 (by have := HN.out; omega))
          clear g ownB q3 TN0 B1
          go_wp2_with (first | ((with_reducible refine (TN.out _ RB).mono ?_); rintro e v3 ⟨vT, rfl, ownT, g⟩; (obtain ⟨aT, kT, rfl, -, -, RT⟩ := RdK.open (OwnI.rd (w := v3) ownT)); (replace h8 := chain h8 g); (replace RL := RdK.below RL g (Nat.le_refl _)); clear g ownT RB) | ((with_reducible refine (SM.out aT kT _ RT RL).mono ?_); rintro e v4 ⟨rfl, n1, hw⟩; (have b1 : Below v3.heap.size v3 v4 := (by rw [hw]; exact SAMEB _ n1)); (replace h8 := chain h8 b1); (replace RL := RdK.below RL b1 (Nat.le_refl _)); clear hw b1 RT))
          have HRL := Lib.hid RL
          have H8 := Lib.hid h8
          have hn := HN.out
          clear RL h8 TN PQ
          go_loopw [12] (fun i wr => ∃ (j n0 : Nat), j ≤ SL.length ∧ i = .int .i64 (j : Int) ∧ Hid (wr = v4.drewN n0)) (fun i _ => 4000 - (intOf i).toNat)
          case atStart => exact ⟨0, 0, Nat.zero_le _, rfl, (rfl : v4 = v4.drewN 0)⟩
          case round =>
            obtain ⟨j, n0, hj, rfl, HW⟩ := hrel
            have e69 : IntKind.i64.wrap ((j : Int) + 1) = ((j + 1 : Nat) : Int) := by rw [IntKind.wrap_i64]; omega
            have bel : Below v4.heap.size v4 wr := by rw [HW.out]; exact below_drewN (Below.refl _ _)
            by_cases hlt : j + 1 < SL.length
            · have R1 : RdI wr (.slice aL SL.length kL) SL := RdK.below HRL.out bel (Nat.le_refl _)
              obtain ⟨b, off, hbo, hb, c0, -, -, -, -⟩ := rdi_cells R1 j (by omega)
              obtain ⟨b2, off2, hbo2, hb2, d0, -, -, -, -⟩ := rdi_cells R1 (j + 1) hlt
              rw [hbo] at hbo2
              cases hbo2
              obtain ⟨x, hx⟩ : ∃ x, x = SL[j]'(by omega) := ⟨_, rfl⟩
              obtain ⟨y, hy⟩ : ∃ x, x = SL[j + 1]'hlt := ⟨_, rfl⟩
              rw [← hx] at c0
              rw [← hy] at d0
              have hxl : x.key.length ≤ maxLen := by rw [hx]; exact HSZ.out _ (List.getElem_mem _)
              have hyl : y.key.length ≤ maxLen := by rw [hy]; exact HSZ.out _ (List.getElem_mem _)
              have ho : ltB x.key y.key = true := by rw [hx, hy]; exact (List.pairwise_iff_getElem.1 HST.out) j (j + 1) (by omega) hlt (by omega)
              have AQ0 := fun W => ahead_q x.key y.key W hxl hyl
              simp only [ho] at AQ0
              have AQH := Lib.hid AQ0
              clear hx hy AQ0 ho R1 hxl hyl bel
              rw [hbo]
              go_wp2_with fail
              go_quiet ((go_at_call 52; exact Calls.quiet_of (AQH.out _)))
              have bel2 : Hid (wr.drewN nq = v4.drewN (n0 + nq)) := by have h := HW.out; exact Lib.hid (by rw [h, World.drewN_drewN])
              go_wp2_with fail
              exact ⟨⟨j + 1, n0 + nq, by omega, by push_cast; rfl, bel2⟩, by simp [intOf]; omega⟩
            · have RL : RdK 5 itC wr (.slice aL SL.length kL) SL := RdK.below HRL.out bel (Nat.le_refl _)
              have h8 := chain H8.out bel
              have a10 := fun W (t : TabAt W) => ahead_any ks fs kk ff W t
              have a20 := fun W (t : TabAt W) => ahead_any ks ts kk tt W t
              have hk0 := emp_eq ks
              have ht0 := emp_eq ts
              clear bel HW
              by_cases hkn : ks = []
              · simp only [hkn, decide_true] at hk0
                rw [← hkn] at hk0
                clear hkn a10 a20
                go_wp2_with ((with_reducible refine (AW.out _ h8).mono ?_); rintro e uz ⟨rfl, gz⟩; (replace h8 := chain h8 gz))
                go_ret
                exact ⟨rfl, chain BW.out h8⟩
              · simp only [hkn, decide_false] at hk0
                cases h1 : ltB ks fs with
                | true =>
                  rw [h1] at a10
                  have A1 := Lib.hid a10
                  clear a10 a20 h1
                  go_wp2_with (first | ((with_reducible refine (A1.out _ (TS.out.below h8)).mono ?_); rintro e w7 ⟨rfl, g⟩; (replace h8 := chain h8 g); (replace RL := RdK.below RL g (Nat.le_refl _)); clear g) | ((with_reducible refine (AW.out _ h8).mono ?_); rintro e uz ⟨rfl, gz⟩; (replace h8 := chain h8 gz)))
                  go_ret
                  exact ⟨rfl, chain BW.out h8⟩
                | false =>
                  rw [h1] at a10
                  have A1 := Lib.hid a10
                  clear a10
                  have c2 : ((ckE lF vs [fs, ks] : Nat) : Int) = 0 := by rw [ck_ok hmy (by simp [hpf, hp])]; rfl
                  have c3 : ((ckE lF vs [ks, ts] : Nat) : Int) = 0 := by rw [ck_ok hmy (by simp [hpt, hp])]; rfl
                  obtain ⟨LX, hLX⟩ : ∃ X, X = scL lF vs fs ks 2000 := ⟨_, rfl⟩
                  obtain ⟨LY, hLY⟩ : ∃ X, X = scL lF vs ks ts 2000 := ⟨_, rfl⟩
                  have x1 : LX = rngL lF fs ks := by
                    rw [hLX]; unfold scL; rw [ck_ok hmy (by simp [hpf, hp]), if_pos rfl]
                    exact List.take_of_length_le (Nat.le_trans (rng_len hmy _ _) (by decide))
                  have y1 : LY = rngL lF ks ts := by
                    rw [hLY]; unfold scL; rw [ck_ok hmy (by simp [hpt, hp]), if_pos rfl]
                    exact List.take_of_length_le (Nat.le_trans (rng_len hmy _ _) (by decide))
                  have s2 := S2.out
                  have s3 := S3.out
                  rw [c2, ← hLX] at s2
                  rw [c3, ← hLY] at s3
                  replace S2 := Lib.hid s2
                  replace S3 := Lib.hid s3
                  have HX9 := Lib.hid (show LX.length ≤ 1024 by rw [x1]; exact rng_len hmy _ _)
                  have HY9 := Lib.hid (show LY.length ≤ 1024 by rw [y1]; exact rng_len hmy _ _)
                  have JN : ts = [] ∨ ltB ks ts = true → LX ++ LY = SL := fun h => by rw [x1, y1, HS0.out]; exact rng_cut hmy hkn h1 h
                  clear c2 c3 hLX hLY x1 y1 s2 s3 h1
                  by_cases htn : ts = []
                  · have J := Lib.hid (JN (.inl htn))
                    simp only [htn, decide_true] at ht0
                    rw [← htn] at ht0
                    clear JN htn hkn a20
                    go_wp2_with (first | ((with_reducible refine (A1.out _ (TS.out.below h8)).mono ?_); rintro e w7 ⟨rfl, g⟩; (replace h8 := chain h8 g); (replace RL := RdK.below RL g (Nat.le_refl _)); clear g) | ((have q3 := (h8.block _ (lt_of_block Q3.out)).trans Q3.out); ((with_reducible refine wpList_load_row (o := ⟨some 107, _, _, _, _, _⟩) rfl 26 (.tmp 5) rfl _ rfl _ CF (0, 0) _ q3 Tryd.underlying26 rfl hsF ?_))))
                    refine (S2.out _ h8).mono ?_
                    rintro e v8 ⟨vX, rfl, ownX, g⟩
                    obtain ⟨aX, kX, rfl, -, -, RX⟩ := RdK.open (OwnI.rd (w := v8) ownX)
                    replace h8 := chain h8 g
                    replace RL := RdK.below RL g (Nat.le_refl _)
                    have q3 := (h8.block _ (lt_of_block Q3.out)).trans Q3.out
                    clear g ownX
                    go_wp2_with ((with_reducible refine wpList_load_row (o := ⟨some 114, _, _, _, _, _⟩) rfl 26 (.tmp 5) rfl _ rfl _ CF (0, 0) _ q3 Tryd.underlying26 rfl hsF ?_))
                    refine (S3.out _ h8).mono ?_
                    rintro e v9 ⟨vY, rfl, ownY, g⟩
                    obtain ⟨aY, kY, rfl, -, -, RY⟩ := RdK.open (OwnI.rd (w := v9) ownY)
                    replace h8 := chain h8 g
                    replace RL := RdK.below RL g (Nat.le_refl _)
                    replace RX := RdK.below RX g (Nat.le_refl _)
                    have LIT := Lib.hid (World.ownsRow_lit (e := 32) (size := 5) v9 #[] 0 (Nat.le_refl _) (by decide) rfl)
                    have bL := (Below.refl v9.heap.size v9).alloc (Nat.le_refl _) (.cells #[] 32)
                    have nX := HX9.out
                    have nY := HY9.out
                    clear g ownY q3
                    go_wp2_with (first
                      | (at_builtin; (with_reducible refine wpList_unguard (o := ⟨some 129, _, _, _, _, _⟩) ?_ ?_); rfl; refine wpList_app_rdk itC_len (by decide) v9 rfl (.tmp 127) (.tmp 128) 22 rfl v9.heap.size 32 i0 (.agg #[.string ⟨#[]⟩, .int .i64 0, .int .i64 0, .string ⟨#[]⟩, .int .i64 0]) 56 Tryd.underlying22 hi hz0 hz1 hz2 rfl (.slice (some ⟨v9.heap.size, 0, none⟩) 0 0) [] rfl LIT.out (.slice aX LX.length kX) LX rfl (RdK.below RX bL (Nat.le_refl _)) itC_one (by unfold maxLen; simp; omega) (by simp; omega) (Nat.le_refl _) bL ?_; intro va wa owna ba qa; clear qa; rw [List.nil_append] at owna; (obtain ⟨a1, k1, rfl, -, -, -⟩ := RdK.open (own_rdk itC_len owna)); (replace RY := RdK.below RY ba (Nat.le_refl _)))
                      | (at_builtin; (with_reducible refine wpList_unguard (o := ⟨some 131, _, _, _, _, _⟩) ?_ ?_); rfl; refine wpList_app_rdk itC_len (by decide) v9 rfl (.tmp 129) (.tmp 130) 22 rfl v9.heap.size 32 i0 (.agg #[.string ⟨#[]⟩, .int .i64 0, .int .i64 0, .string ⟨#[]⟩, .int .i64 0]) 56 Tryd.underlying22 hi hz0 hz1 hz2 rfl (.slice a1 LX.length k1) LX rfl owna (.slice aY LY.length kY) LY rfl RY itC_one (by unfold maxLen; omega) (by omega) (Nat.le_refl _) ba ?_; intro vb wb ownb bb qb; clear qb; rw [J.out] at ownb; (obtain ⟨aT, kT, rfl, -, -, RT⟩ := RdK.open (own_rdk itC_len ownb)); (replace h8 := chain h8 bb); (replace RL := RdK.below RL bb (Nat.le_refl _)); clear owna ownb ba bb RX RY LIT bL)
                      | ((with_reducible refine (SM.out aT kT _ RT RL).mono ?_); rintro e v10 ⟨rfl, n1, hw⟩; (have b1 : Below wb.heap.size wb v10 := (by rw [hw]; exact SAMEB _ n1)); (replace h8 := chain h8 b1); (replace RL := RdK.below RL b1 (Nat.le_refl _)); clear hw b1 RT) | ((with_reducible refine (AW.out _ h8).mono ?_); rintro e uz ⟨rfl, gz⟩; (replace h8 := chain h8 gz)))
                    go_ret
                    exact ⟨rfl, chain BW.out h8⟩
                  · simp only [htn, decide_false] at ht0
                    cases h2 : ltB ks ts with
                    | false =>
                      rw [h2] at a20
                      have A2 := Lib.hid a20
                      clear a20 JN h2 htn hkn
                      go_wp2_with (first | ((with_reducible refine (A1.out _ (TS.out.below h8)).mono ?_); rintro e w7 ⟨rfl, g⟩; (replace h8 := chain h8 g); (replace RL := RdK.below RL g (Nat.le_refl _)); clear g) | ((with_reducible refine (A2.out _ (TS.out.below h8)).mono ?_); rintro e w7 ⟨rfl, g⟩; (replace h8 := chain h8 g); (replace RL := RdK.below RL g (Nat.le_refl _)); clear g) | ((with_reducible refine (AW.out _ h8).mono ?_); rintro e uz ⟨rfl, gz⟩; (replace h8 := chain h8 gz)))
                      go_ret
                      exact ⟨rfl, chain BW.out h8⟩
                    | true =>
                      rw [h2] at a20
                      have A2 := Lib.hid a20
                      have J := Lib.hid (JN (.inr h2))
                      clear a20 JN h2 htn hkn
                      go_wp2_with (first | ((with_reducible refine (A1.out _ (TS.out.below h8)).mono ?_); rintro e w7 ⟨rfl, g⟩; (replace h8 := chain h8 g); (replace RL := RdK.below RL g (Nat.le_refl _)); clear g) | ((with_reducible refine (A2.out _ (TS.out.below h8)).mono ?_); rintro e w7 ⟨rfl, g⟩; (replace h8 := chain h8 g); (replace RL := RdK.below RL g (Nat.le_refl _)); clear g) | ((have q3 := (h8.block _ (lt_of_block Q3.out)).trans Q3.out); ((with_reducible refine wpList_load_row (o := ⟨some 107, _, _, _, _, _⟩) rfl 26 (.tmp 5) rfl _ rfl _ CF (0, 0) _ q3 Tryd.underlying26 rfl hsF ?_))))
                      refine (S2.out _ h8).mono ?_
                      rintro e v8 ⟨vX, rfl, ownX, g⟩
                      obtain ⟨aX, kX, rfl, -, -, RX⟩ := RdK.open (OwnI.rd (w := v8) ownX)
                      replace h8 := chain h8 g
                      replace RL := RdK.below RL g (Nat.le_refl _)
                      have q3 := (h8.block _ (lt_of_block Q3.out)).trans Q3.out
                      clear g ownX
                      go_wp2_with ((with_reducible refine wpList_load_row (o := ⟨some 114, _, _, _, _, _⟩) rfl 26 (.tmp 5) rfl _ rfl _ CF (0, 0) _ q3 Tryd.underlying26 rfl hsF ?_))
                      refine (S3.out _ h8).mono ?_
                      rintro e v9 ⟨vY, rfl, ownY, g⟩
                      obtain ⟨aY, kY, rfl, -, -, RY⟩ := RdK.open (OwnI.rd (w := v9) ownY)
                      replace h8 := chain h8 g
                      replace RL := RdK.below RL g (Nat.le_refl _)
                      replace RX := RdK.below RX g (Nat.le_refl _)
                      have LIT := Lib.hid (World.ownsRow_lit (e := 32) (size := 5) v9 #[] 0 (Nat.le_refl _) (by decide) rfl)
                      have bL := (Below.refl v9.heap.size v9).alloc (Nat.le_refl _) (.cells #[] 32)
                      have nX := HX9.out
                      have nY := HY9.out
                      clear g ownY q3
                      go_wp2_with (first
                        | (at_builtin; (with_reducible refine wpList_unguard (o := ⟨some 129, _, _, _, _, _⟩) ?_ ?_); rfl; refine wpList_app_rdk itC_len (by decide) v9 rfl (.tmp 127) (.tmp 128) 22 rfl v9.heap.size 32 i0 (.agg #[.string ⟨#[]⟩, .int .i64 0, .int .i64 0, .string ⟨#[]⟩, .int .i64 0]) 56 Tryd.underlying22 hi hz0 hz1 hz2 rfl (.slice (some ⟨v9.heap.size, 0, none⟩) 0 0) [] rfl LIT.out (.slice aX LX.length kX) LX rfl (RdK.below RX bL (Nat.le_refl _)) itC_one (by unfold maxLen; simp; omega) (by simp; omega) (Nat.le_refl _) bL ?_; intro va wa owna ba qa; clear qa; rw [List.nil_append] at owna; (obtain ⟨a1, k1, rfl, -, -, -⟩ := RdK.open (own_rdk itC_len owna)); (replace RY := RdK.below RY ba (Nat.le_refl _)))
                        | (at_builtin; (with_reducible refine wpList_unguard (o := ⟨some 131, _, _, _, _, _⟩) ?_ ?_); rfl; refine wpList_app_rdk itC_len (by decide) v9 rfl (.tmp 129) (.tmp 130) 22 rfl v9.heap.size 32 i0 (.agg #[.string ⟨#[]⟩, .int .i64 0, .int .i64 0, .string ⟨#[]⟩, .int .i64 0]) 56 Tryd.underlying22 hi hz0 hz1 hz2 rfl (.slice a1 LX.length k1) LX rfl owna (.slice aY LY.length kY) LY rfl RY itC_one (by unfold maxLen; omega) (by omega) (Nat.le_refl _) ba ?_; intro vb wb ownb bb qb; clear qb; rw [J.out] at ownb; (obtain ⟨aT, kT, rfl, -, -, RT⟩ := RdK.open (own_rdk itC_len ownb)); (replace h8 := chain h8 bb); (replace RL := RdK.below RL bb (Nat.le_refl _)); clear owna ownb ba bb RX RY LIT bL)
                        | ((with_reducible refine (SM.out aT kT _ RT RL).mono ?_); rintro e v10 ⟨rfl, n1, hw⟩; (have b1 : Below wb.heap.size wb v10 := (by rw [hw]; exact SAMEB _ n1)); (replace h8 := chain h8 b1); (replace RL := RdK.below RL b1 (Nat.le_refl _)); clear hw b1 RT) | ((with_reducible refine (AW.out _ h8).mono ?_); rintro e uz ⟨rfl, gz⟩; (replace h8 := chain h8 gz)))
                      go_ret
                      exact ⟨rfl, chain BW.out h8⟩
      · have e1 : SL.length = 0 := by rw [HSL.out]; unfold scL; rw [← HE.out, if_neg hc]; rfl
        have d1 : (ez != 0) = true := by rw [HEZ.out]; simp; omega
        have d2 : (ez == 0) = false := by rw [HEZ.out]; simp; omega
        rw [e1]
        clear HSL HBL HE HEZ hc e1 RL q3
        go_wp2_with ((with_reducible refine (AW.out _ h8).mono ?_); rintro e uz ⟨rfl, gz⟩; (replace h8 := chain h8 gz))
        go_ret
        exact ⟨rfl, chain BW.out h8⟩
  · skip
    go_simp
    have qz : ((World.alloc W0 (.cells zT 26)).drew).heap[W0.heap.size]? = some (.cells zT 26 (0, 0)) := heap_alloc_new W0 (.cells zT 26)
    have GA0 : W0.heap.size ≤ W0.heap.size := hS.size
    have g := (Below.refl W0.drew.heap.size W0.drew).alloc (Nat.le_refl _) (.cells zT 26)
    have hS : Below W0.heap.size W0 ((World.alloc W0 (.cells zT 26)).drew) := Below.drew ((Below.refl W0.heap.size W0).alloc (Nat.le_refl _) _)
    refine hK _ _ ⟨hS, ?_⟩
    clear hK K g
    obtain ⟨y1, hy⟩ : ∃ W, W = (World.alloc W0 (.cells zT 26)).drew := ⟨_, rfl⟩
    rw [← hy] at qz hS ⊢
    clear hy
    try simp only [Act.put, List.setIfInBounds_toArray, List.set_cons_zero, List.set_cons_succ]
    refine gs_run (i := 2) rfl (by kernel_rfl) (by rfl) (fun K hK => ?_)
    go_simp
    have bF := lt_of_block qz
    refine (FW.out _ hS).mono ?_
    rintro e y2 ⟨CF, rfl, own, g⟩
    have hS := chain hS g
    have qz := (g.block _ (lt_of_block qz)).trans qz
    have hF := Below.refl y2.heap.size y2
    have RF := Lib.hid own.rd
    refine hK _ _ ⟨hS, ?_⟩
    clear hK K g
    try simp only [Act.put, List.setIfInBounds_toArray, List.set_cons_zero, List.set_cons_succ]
    refine gs_run (i := 5) rfl (by kernel_rfl) (by rfl) (fun K hK => ?_)
    go_simp
    refine (SF.out _).mono ?_
    rintro e w' ⟨rfl, rfl⟩
    refine hK _ _ ⟨hS, ?_⟩
    clear hK K
    try simp only [Act.put, List.setIfInBounds_toArray, List.set_cons_zero, List.set_cons_succ]
    refine gs_run (i := 8) rfl (by kernel_rfl) (by rfl) (fun K hK => ?_)
    go_simp
    refine (ST.out _).mono ?_
    rintro e w' ⟨rfl, rfl⟩
    refine hK _ _ ⟨hS, ?_⟩
    clear hK K
    try simp only [Act.put, List.setIfInBounds_toArray, List.set_cons_zero, List.set_cons_succ]
    refine gs_run (i := 10) rfl (by kernel_rfl) (by rfl) (fun K hK => ?_)
    have hsF := infoTc own.size
    have hzF : zT.size = CF.size := by rw [own.size]; rfl
    have hoF := own.rd.one
    refine wp_store_row 26 (.tmp 5) (.tmp 19) rfl _ CF rfl rfl _ zT qz hsF hzF hoF ?_
    have qn := setRow_heap _ _ _ CF _ _ qz
    have hS := below_row hS GA0 CF
    have own := own.moved (w' := World.setRow y2 W0.heap.size CF) (fun k hk _ => by rw [setRow_other _ _ _ _ (by omega)])
    refine hK _ _ ⟨hS, ?_⟩
    clear hK K
    obtain ⟨WS, hWS⟩ : ∃ W, W = World.setRow y2 W0.heap.size CF := ⟨_, rfl⟩
    rw [← hWS] at qn hS own  ⊢
    clear hWS
    have HT := Lib.hid (show RdT WS CF lF vs from own.rd)
    have Q3 := Lib.hid qn
    clear qz qn hF own RF hsF hzF hoF bF
    try simp only [Act.put, List.setIfInBounds_toArray, List.set_cons_zero, List.set_cons_succ]
    refine gs_take (i := 11) (d := (some 6)) (v := ?_) rfl rfl (by kernel_rfl) (fun _ _ _ h => h) (by rfl) hS (fun w' hb' => ?_) ?_
    rotate_left
    · (try go_simp); (try with_reducible rfl)
    try simp only [Act.put, List.setIfInBounds_toArray, List.set_cons_zero, List.set_cons_succ]
    refine gs_take (i := 12) (d := (some 7)) (v := ?_) rfl rfl (by kernel_rfl) (fun _ _ _ h => h) (by rfl) hS (fun w' hb' => ?_) ?_
    rotate_left
    · (try go_simp); (try with_reducible rfl)
    try simp only [Act.put, List.setIfInBounds_toArray, List.set_cons_zero, List.set_cons_succ]
    refine gs_done (by kernel_rfl) ?_
    have GAW : w.heap.size < W0.heap.size := by have := lt_of_block Q1.out; omega
    obtain ⟨ga, hga⟩ : ∃ ga, ga = W0.heap.size := ⟨_, rfl⟩
    rw [← hga] at GAW Q3 ⊢
    clear hga GA0
    have hsF := infoTc HT.out.size
    have BW := Lib.hid (chain BEL.out hS)
    have TS := Lib.hid (TAB.out.below BW.out)
    have h8 := Below.refl WS.heap.size WS
    clear PT FW C32 C33 C34 SF ST hS z0 z1 hs0
    have S10 := fun W (g : Below WS.heap.size WS W) => scan_any CF lF vs fs ts 2000 W (TS.out.below g) (HT.out.below g (Nat.le_refl _)) szF ff tt
    have S20 := fun W (g : Below WS.heap.size WS W) => scan_any CF lF vs fs ks 2000 W (TS.out.below g) (HT.out.below g (Nat.le_refl _)) szF ff kk
    have S30 := fun W (g : Below WS.heap.size WS W) => scan_any CF lF vs ks ts 2000 W (TS.out.below g) (HT.out.below g (Nat.le_refl _)) szF kk tt
    have B10 := fun W (g : Below WS.heap.size WS W) => back_any CF lF vs fs ts 2000 W (TS.out.below g) (HT.out.below g (Nat.le_refl _)) szF ff tt
    have AW := Lib.hid (fun W (g : Below WS.heap.size WS W) => awake11_any W (TS.out.below g))
    obtain ⟨SL, hSL⟩ : ∃ X, X = scL lF vs fs ts 2000 := ⟨_, rfl⟩
    obtain ⟨BL, hBL⟩ : ∃ X, X = (scL lF vs fs ts 1024).reverse.take (2000 : Int).toNat := ⟨_, rfl⟩
    obtain ⟨E, hE⟩ : ∃ X, X = ckE lF vs [fs, ts] := ⟨_, rfl⟩
    obtain ⟨ez, hez⟩ : ∃ z : Int, z = (E : Int) := ⟨_, rfl⟩
    rw [← hSL, ← hE, ← hez] at S10
    rw [← hBL, ← hE, ← hez] at B10
    have S1 := Lib.hid S10
    have B1 := Lib.hid B10
    have HSL := Lib.hid hSL
    have HBL := Lib.hid hBL
    have HE := Lib.hid hE
    have HEZ := Lib.hid hez
    clear S10 B10 hSL hBL hE hez
    have S2 := Lib.hid S20
    have S3 := Lib.hid S30
    clear S20 S30
    go_wp2_with fail
    refine (SK.out _).mono ?_
    rintro e w' ⟨rfl, rfl⟩
    have q3 := Q3.out
    go_wp2_with ((with_reducible refine wpList_load_row (o := ⟨some 29, _, _, _, _, _⟩) rfl 26 (.tmp 5) rfl _ rfl _ CF (0, 0) _ q3 Tryd.underlying26 rfl hsF ?_))
    refine (S1.out _ h8).mono ?_
    rintro e v1 ⟨vL, rfl, ownL, g⟩
    obtain ⟨aL, kL, rfl, -, -, RL⟩ := RdK.open (OwnI.rd (w := v1) ownL)
    replace h8 := chain h8 g
    replace q3 := (h8.block _ (lt_of_block Q3.out)).trans Q3.out
    clear g ownL S1 SK
    by_cases hc : E = 0
    · have hmp : mayTs lF vs 16 = true ∧ patB fs = true ∧ patB ts = true := by
        have h0 := HE.out.symm.trans hc
        cases hm : mayTs lF vs 16 with
        | false => rw [ck_no hm] at h0; exact absurd h0 (by decide)
        | true =>
          cases hp : ([fs, ts] : List (List UInt8)).all patB with
          | true => exact ⟨rfl, by simpa using hp⟩
          | false => rw [ck_form hm hp] at h0; exact absurd h0 (by decide)
      obtain ⟨hmy, hpf, hpt⟩ := hmp
      have s0 : SL = rngL lF fs ts := by
        rw [HSL.out]; unfold scL; rw [← HE.out, if_pos hc]
        exact List.take_of_length_le (Nat.le_trans (rng_len hmy _ _) (by decide))
      have e2 : BL.reverse = SL := by
        rw [HBL.out, sc_full (HE.out.symm.trans hc), s0, List.take_of_length_le (by rw [List.length_reverse]; exact Nat.le_trans (rng_len hmy _ _) (by decide)), List.reverse_reverse]
      have HN := Lib.hid (show SL.length ≤ 1024 by rw [s0]; exact rng_len hmy _ _)
      have HB := Lib.hid (show BL.length ≤ 1024 by have := congrArg List.length e2; rw [List.length_reverse] at this; rw [this]; exact HN.out)
      have HSZ := Lib.hid (show ∀ x ∈ SL, x.key.length ≤ maxLen from fun x hx => by rw [s0] at hx; exact (allS_sz szF _ ((rng_mem hmy).1 hx).1).1)
      have HST := Lib.hid (show SrtI SL by rw [s0]; exact rng_sorted hmy _ _)
      have HS0 := Lib.hid s0
      have HE2 := Lib.hid e2
      have e5 : ez = 0 := by rw [HEZ.out, hc]; rfl
      have SAMEB : ∀ (W : World) (k : Nat), Below W.heap.size W (W.drewN k) := fun W k => below_drewN (Below.refl W.heap.size W)
      have PQ0 := fun W (t : TabAt W) => refPattern_any ks kk W t
      clear s0 e2 HSL HBL HE HEZ hc
      subst e5
      cases hp : patB ks with
      | false =>
        rw [hp] at PQ0
        have PQ := Lib.hid PQ0
        clear PQ0 hp
        go_wp2_with (first | ((with_reducible refine (PQ.out _ (TS.out.below h8)).mono ?_); rintro e w' ⟨rfl, rfl⟩) | ((with_reducible refine (AW.out _ h8).mono ?_); rintro e uz ⟨rfl, gz⟩; (replace h8 := chain h8 gz)))
        go_ret
        exact ⟨rfl, chain BW.out h8⟩
      | true =>
        rw [hp] at PQ0
        have PQ := Lib.hid PQ0
        clear PQ0
        go_wp2_with (first | ((with_reducible refine (PQ.out _ (TS.out.below h8)).mono ?_); rintro e w' ⟨rfl, rfl⟩) | ((with_reducible refine wpList_load_row (o := ⟨some 53, _, _, _, _, _⟩) rfl 26 (.tmp 5) rfl _ rfl _ CF (0, 0) _ q3 Tryd.underlying26 rfl hsF ?_)))
        refine (B1.out _ h8).mono ?_
        rintro e v2 ⟨vB, rfl, ownB, g⟩
        obtain ⟨aB, kB, rfl, -, -, RB⟩ := RdK.open (OwnI.rd (w := v2) ownB)
        replace h8 := chain h8 g
        replace RL := RdK.below RL g (Nat.le_refl _)
        have TN0 := fun W (h : RdK 5 itC W (.slice aB BL.length kB) BL) => turned_any (.slice aB BL.length kB) BL W h (by have := HB.out; omega)
        rw [HE2.out] at TN0
        have TN := Lib.hid TN0
        have SM := Lib.hid (fun (aT : Option Addr) (kT : Nat) W (h : RdK 5 itC W (.slice aT SL.length kT) SL) (h2 : RdK 5 itC W (.slice aL SL.length kL) SL) => refSame11_yes (.slice aT SL.length kT) (.slice aL SL.length kL) SL W h h2 (by have := HN.out; omega))
        clear g ownB q3 TN0 B1
        go_wp2_with (first | ((with_reducible refine (TN.out _ RB).mono ?_); rintro e v3 ⟨vT, rfl, ownT, g⟩; (obtain ⟨aT, kT, rfl, -, -, RT⟩ := RdK.open (OwnI.rd (w := v3) ownT)); (replace h8 := chain h8 g); (replace RL := RdK.below RL g (Nat.le_refl _)); clear g ownT RB) | ((with_reducible refine (SM.out aT kT _ RT RL).mono ?_); rintro e v4 ⟨rfl, n1, hw⟩; (have b1 : Below v3.heap.size v3 v4 := (by rw [hw]; exact SAMEB _ n1)); (replace h8 := chain h8 b1); (replace RL := RdK.below RL b1 (Nat.le_refl _)); clear hw b1 RT))
        have HRL := Lib.hid RL
        have H8 := Lib.hid h8
        have hn := HN.out
        clear RL h8 TN PQ
        go_loopw [12] (fun i wr => ∃ (j n0 : Nat), j ≤ SL.length ∧ i = .int .i64 (j : Int) ∧ Hid (wr = v4.drewN n0)) (fun i _ => 4000 - (intOf i).toNat)
        case atStart => exact ⟨0, 0, Nat.zero_le _, rfl, (rfl : v4 = v4.drewN 0)⟩
        case round =>
          obtain ⟨j, n0, hj, rfl, HW⟩ := hrel
          have e69 : IntKind.i64.wrap ((j : Int) + 1) = ((j + 1 : Nat) : Int) := by rw [IntKind.wrap_i64]; omega
          have bel : Below v4.heap.size v4 wr := by rw [HW.out]; exact below_drewN (Below.refl _ _)
          by_cases hlt : j + 1 < SL.length
          · have R1 : RdI wr (.slice aL SL.length kL) SL := RdK.below HRL.out bel (Nat.le_refl _)
            obtain ⟨b, off, hbo, hb, c0, -, -, -, -⟩ := rdi_cells R1 j (by omega)
            obtain ⟨b2, off2, hbo2, hb2, d0, -, -, -, -⟩ := rdi_cells R1 (j + 1) hlt
            rw [hbo] at hbo2
            cases hbo2
            obtain ⟨x, hx⟩ : ∃ x, x = SL[j]'(by omega) := ⟨_, rfl⟩
            obtain ⟨y, hy⟩ : ∃ x, x = SL[j + 1]'hlt := ⟨_, rfl⟩
            rw [← hx] at c0
            rw [← hy] at d0
            have hxl : x.key.length ≤ maxLen := by rw [hx]; exact HSZ.out _ (List.getElem_mem _)
            have hyl : y.key.length ≤ maxLen := by rw [hy]; exact HSZ.out _ (List.getElem_mem _)
            have ho : ltB x.key y.key = true := by rw [hx, hy]; exact (List.pairwise_iff_getElem.1 HST.out) j (j + 1) (by omega) hlt (by omega)
            have AQ0 := fun W => ahead_q x.key y.key W hxl hyl
            simp only [ho] at AQ0
            have AQH := Lib.hid AQ0
            clear hx hy AQ0 ho R1 hxl hyl bel
            rw [hbo]
            go_wp2_with fail
            go_quiet ((go_at_call 52; exact Calls.quiet_of (AQH.out _)))
            have bel2 : Hid (wr.drewN nq = v4.drewN (n0 + nq)) := by have h := HW.out; exact Lib.hid (by rw [h, World.drewN_drewN])
            go_wp2_with fail
            exact ⟨⟨j + 1, n0 + nq, by omega, by push_cast; rfl, bel2⟩, by simp [intOf]; omega⟩
          · have RL : RdK 5 itC wr (.slice aL SL.length kL) SL := RdK.below HRL.out bel (Nat.le_refl _)
            have h8 := chain H8.out bel
            have a10 := fun W (t : TabAt W) => ahead_any ks fs kk ff W t
            have a20 := fun W (t : TabAt W) => ahead_any ks ts kk tt W t
            have hk0 := emp_eq ks
            have ht0 := emp_eq ts
            clear bel HW
            by_cases hkn : ks = []
            · simp only [hkn, decide_true] at hk0
              rw [← hkn] at hk0
              clear hkn a10 a20
              go_wp2_with ((with_reducible refine (AW.out _ h8).mono ?_); rintro e uz ⟨rfl, gz⟩; (replace h8 := chain h8 gz))
              go_ret
              exact ⟨rfl, chain BW.out h8⟩
            · simp only [hkn, decide_false] at hk0
              cases h1 : ltB ks fs with
              | true =>
                rw [h1] at a10
                have A1 := Lib.hid a10
                clear a10 a20 h1
                go_wp2_with (first | ((with_reducible refine (A1.out _ (TS.out.below h8)).mono ?_); rintro e w7 ⟨rfl, g⟩; (replace h8 := chain h8 g); (replace RL := RdK.below RL g (Nat.le_refl _)); clear g) | ((with_reducible refine (AW.out _ h8).mono ?_); rintro e uz ⟨rfl, gz⟩; (replace h8 := chain h8 gz)))
                go_ret
                exact ⟨rfl, chain BW.out h8⟩
              | false =>
                rw [h1] at a10
                have A1 := Lib.hid a10
                clear a10
                have c2 : ((ckE lF vs [fs, ks] : Nat) : Int) = 0 := by rw [ck_ok hmy (by simp [hpf, hp])]; rfl
                have c3 : ((ckE lF vs [ks, ts] : Nat) : Int) = 0 := by rw [ck_ok hmy (by simp [hpt, hp])]; rfl
                obtain ⟨LX, hLX⟩ : ∃ X, X = scL lF vs fs ks 2000 := ⟨_, rfl⟩
                obtain ⟨LY, hLY⟩ : ∃ X, X = scL lF vs ks ts 2000 := ⟨_, rfl⟩
                have x1 : LX = rngL lF fs ks := by
                  rw [hLX]; unfold scL; rw [ck_ok hmy (by simp [hpf, hp]), if_pos rfl]
                  exact List.take_of_length_le (Nat.le_trans (rng_len hmy _ _) (by decide))
                have y1 : LY = rngL lF ks ts := by
                  rw [hLY]; unfold scL; rw [ck_ok hmy (by simp [hpt, hp]), if_pos rfl]
                  exact List.take_of_length_le (Nat.le_trans (rng_len hmy _ _) (by decide))
                have s2 := S2.out
                have s3 := S3.out
                rw [c2, ← hLX] at s2
                rw [c3, ← hLY] at s3
                replace S2 := Lib.hid s2
                replace S3 := Lib.hid s3
                have HX9 := Lib.hid (show LX.length ≤ 1024 by rw [x1]; exact rng_len hmy _ _)
                have HY9 := Lib.hid (show LY.length ≤ 1024 by rw [y1]; exact rng_len hmy _ _)
                have JN : ts = [] ∨ ltB ks ts = true → LX ++ LY = SL := fun h => by rw [x1, y1, HS0.out]; exact rng_cut hmy hkn h1 h
                clear c2 c3 hLX hLY x1 y1 s2 s3 h1
                by_cases htn : ts = []
                · have J := Lib.hid (JN (.inl htn))
                  simp only [htn, decide_true] at ht0
                  rw [← htn] at ht0
                  clear JN htn hkn a20
                  go_wp2_with (first | ((with_reducible refine (A1.out _ (TS.out.below h8)).mono ?_); rintro e w7 ⟨rfl, g⟩; (replace h8 := chain h8 g); (replace RL := RdK.below RL g (Nat.le_refl _)); clear g) | ((have q3 := (h8.block _ (lt_of_block Q3.out)).trans Q3.out); ((with_reducible refine wpList_load_row (o := ⟨some 107, _, _, _, _, _⟩) rfl 26 (.tmp 5) rfl _ rfl _ CF (0, 0) _ q3 Tryd.underlying26 rfl hsF ?_))))
                  refine (S2.out _ h8).mono ?_
                  rintro e v8 ⟨vX, rfl, ownX, g⟩
                  obtain ⟨aX, kX, rfl, -, -, RX⟩ := RdK.open (OwnI.rd (w := v8) ownX)
                  replace h8 := chain h8 g
                  replace RL := RdK.below RL g (Nat.le_refl _)
                  have q3 := (h8.block _ (lt_of_block Q3.out)).trans Q3.out
                  clear g ownX
                  go_wp2_with ((with_reducible refine wpList_load_row (o := ⟨some 114, _, _, _, _, _⟩) rfl 26 (.tmp 5) rfl _ rfl _ CF (0, 0) _ q3 Tryd.underlying26 rfl hsF ?_))
                  refine (S3.out _ h8).mono ?_
                  rintro e v9 ⟨vY, rfl, ownY, g⟩
                  obtain ⟨aY, kY, rfl, -, -, RY⟩ := RdK.open (OwnI.rd (w := v9) ownY)
                  replace h8 := chain h8 g
                  replace RL := RdK.below RL g (Nat.le_refl _)
                  replace RX := RdK.below RX g (Nat.le_refl _)
                  have LIT := Lib.hid (World.ownsRow_lit (e := 32) (size := 5) v9 #[] 0 (Nat.le_refl _) (by decide) rfl)
                  have bL := (Below.refl v9.heap.size v9).alloc (Nat.le_refl _) (.cells #[] 32)
                  have nX := HX9.out
                  have nY := HY9.out
                  clear g ownY q3
                  go_wp2_with (first
                    | (at_builtin; (with_reducible refine wpList_unguard (o := ⟨some 129, _, _, _, _, _⟩) ?_ ?_); rfl; refine wpList_app_rdk itC_len (by decide) v9 rfl (.tmp 127) (.tmp 128) 22 rfl v9.heap.size 32 i0 (.agg #[.string ⟨#[]⟩, .int .i64 0, .int .i64 0, .string ⟨#[]⟩, .int .i64 0]) 56 Tryd.underlying22 hi hz0 hz1 hz2 rfl (.slice (some ⟨v9.heap.size, 0, none⟩) 0 0) [] rfl LIT.out (.slice aX LX.length kX) LX rfl (RdK.below RX bL (Nat.le_refl _)) itC_one (by unfold maxLen; simp; omega) (by simp; omega) (Nat.le_refl _) bL ?_; intro va wa owna ba qa; clear qa; rw [List.nil_append] at owna; (obtain ⟨a1, k1, rfl, -, -, -⟩ := RdK.open (own_rdk itC_len owna)); (replace RY := RdK.below RY ba (Nat.le_refl _)))
                    | (at_builtin; (with_reducible refine wpList_unguard (o := ⟨some 131, _, _, _, _, _⟩) ?_ ?_); rfl; refine wpList_app_rdk itC_len (by decide) v9 rfl (.tmp 129) (.tmp 130) 22 rfl v9.heap.size 32 i0 (.agg #[.string ⟨#[]⟩, .int .i64 0, .int .i64 0, .string ⟨#[]⟩, .int .i64 0]) 56 Tryd.underlying22 hi hz0 hz1 hz2 rfl (.slice a1 LX.length k1) LX rfl owna (.slice aY LY.length kY) LY rfl RY itC_one (by unfold maxLen; omega) (by omega) (Nat.le_refl _) ba ?_; intro vb wb ownb bb qb; clear qb; rw [J.out] at ownb; (obtain ⟨aT, kT, rfl, -, -, RT⟩ := RdK.open (own_rdk itC_len ownb)); (replace h8 := chain h8 bb); (replace RL := RdK.below RL bb (Nat.le_refl _)); clear owna ownb ba bb RX RY LIT bL)
                    | ((with_reducible refine (SM.out aT kT _ RT RL).mono ?_); rintro e v10 ⟨rfl, n1, hw⟩; (have b1 : Below wb.heap.size wb v10 := (by rw [hw]; exact SAMEB _ n1)); (replace h8 := chain h8 b1); (replace RL := RdK.below RL b1 (Nat.le_refl _)); clear hw b1 RT) | ((with_reducible refine (AW.out _ h8).mono ?_); rintro e uz ⟨rfl, gz⟩; (replace h8 := chain h8 gz)))
                  go_ret
                  exact ⟨rfl, chain BW.out h8⟩
                · simp only [htn, decide_false] at ht0
                  cases h2 : ltB ks ts with
                  | false =>
                    rw [h2] at a20
                    have A2 := Lib.hid a20
                    clear a20 JN h2 htn hkn
                    go_wp2_with (first | ((with_reducible refine (A1.out _ (TS.out.below h8)).mono ?_); rintro e w7 ⟨rfl, g⟩; (replace h8 := chain h8 g); (replace RL := RdK.below RL g (Nat.le_refl _)); clear g) | ((with_reducible refine (A2.out _ (TS.out.below h8)).mono ?_); rintro e w7 ⟨rfl, g⟩; (replace h8 := chain h8 g); (replace RL := RdK.below RL g (Nat.le_refl _)); clear g) | ((with_reducible refine (AW.out _ h8).mono ?_); rintro e uz ⟨rfl, gz⟩; (replace h8 := chain h8 gz)))
                    go_ret
                    exact ⟨rfl, chain BW.out h8⟩
                  | true =>
                    rw [h2] at a20
                    have A2 := Lib.hid a20
                    have J := Lib.hid (JN (.inr h2))
                    clear a20 JN h2 htn hkn
                    go_wp2_with (first | ((with_reducible refine (A1.out _ (TS.out.below h8)).mono ?_); rintro e w7 ⟨rfl, g⟩; (replace h8 := chain h8 g); (replace RL := RdK.below RL g (Nat.le_refl _)); clear g) | ((with_reducible refine (A2.out _ (TS.out.below h8)).mono ?_); rintro e w7 ⟨rfl, g⟩; (replace h8 := chain h8 g); (replace RL := RdK.below RL g (Nat.le_refl _)); clear g) | ((have q3 := (h8.block _ (lt_of_block Q3.out)).trans Q3.out); ((with_reducible refine wpList_load_row (o := ⟨some 107, _, _, _, _, _⟩) rfl 26 (.tmp 5) rfl _ rfl _ CF (0, 0) _ q3 Tryd.underlying26 rfl hsF ?_))))
                    refine (S2.out _ h8).mono ?_
                    rintro e v8 ⟨vX, rfl, ownX, g⟩
                    obtain ⟨aX, kX, rfl, -, -, RX⟩ := RdK.open (OwnI.rd (w := v8) ownX)
                    replace h8 := chain h8 g
                    replace RL := RdK.below RL g (Nat.le_refl _)
                    have q3 := (h8.block _ (lt_of_block Q3.out)).trans Q3.out
                    clear g ownX
                    go_wp2_with ((with_reducible refine wpList_load_row (o := ⟨some 114, _, _, _, _, _⟩) rfl 26 (.tmp 5) rfl _ rfl _ CF (0, 0) _ q3 Tryd.underlying26 rfl hsF ?_))
                    refine (S3.out _ h8).mono ?_
                    rintro e v9 ⟨vY, rfl, ownY, g⟩
                    obtain ⟨aY, kY, rfl, -, -, RY⟩ := RdK.open (OwnI.rd (w := v9) ownY)
                    replace h8 := chain h8 g
                    replace RL := RdK.below RL g (Nat.le_refl _)
                    replace RX := RdK.below RX g (Nat.le_refl _)
                    have LIT := Lib.hid (World.ownsRow_lit (e := 32) (size := 5) v9 #[] 0 (Nat.le_refl _) (by decide) rfl)
                    have bL := (Below.refl v9.heap.size v9).alloc (Nat.le_refl _) (.cells #[] 32)
                    have nX := HX9.out
                    have nY := HY9.out
                    clear g ownY q3
                    go_wp2_with (first
                      | (at_builtin; (with_reducible refine wpList_unguard (o := ⟨some 129, _, _, _, _, _⟩) ?_ ?_); rfl; refine wpList_app_rdk itC_len (by decide) v9 rfl (.tmp 127) (.tmp 128) 22 rfl v9.heap.size 32 i0 (.agg #[.string ⟨#[]⟩, .int .i64 0, .int .i64 0, .string ⟨#[]⟩, .int .i64 0]) 56 Tryd.underlying22 hi hz0 hz1 hz2 rfl (.slice (some ⟨v9.heap.size, 0, none⟩) 0 0) [] rfl LIT.out (.slice aX LX.length kX) LX rfl (RdK.below RX bL (Nat.le_refl _)) itC_one (by unfold maxLen; simp; omega) (by simp; omega) (Nat.le_refl _) bL ?_; intro va wa owna ba qa; clear qa; rw [List.nil_append] at owna; (obtain ⟨a1, k1, rfl, -, -, -⟩ := RdK.open (own_rdk itC_len owna)); (replace RY := RdK.below RY ba (Nat.le_refl _)))
                      | (at_builtin; (with_reducible refine wpList_unguard (o := ⟨some 131, _, _, _, _, _⟩) ?_ ?_); rfl; refine wpList_app_rdk itC_len (by decide) v9 rfl (.tmp 129) (.tmp 130) 22 rfl v9.heap.size 32 i0 (.agg #[.string ⟨#[]⟩, .int .i64 0, .int .i64 0, .string ⟨#[]⟩, .int .i64 0]) 56 Tryd.underlying22 hi hz0 hz1 hz2 rfl (.slice a1 LX.length k1) LX rfl owna (.slice aY LY.length kY) LY rfl RY itC_one (by unfold maxLen; omega) (by omega) (Nat.le_refl _) ba ?_; intro vb wb ownb bb qb; clear qb; rw [J.out] at ownb; (obtain ⟨aT, kT, rfl, -, -, RT⟩ := RdK.open (own_rdk itC_len ownb)); (replace h8 := chain h8 bb); (replace RL := RdK.below RL bb (Nat.le_refl _)); clear owna ownb ba bb RX RY LIT bL)
                      | ((with_reducible refine (SM.out aT kT _ RT RL).mono ?_); rintro e v10 ⟨rfl, n1, hw⟩; (have b1 : Below wb.heap.size wb v10 := (by rw [hw]; exact SAMEB _ n1)); (replace h8 := chain h8 b1); (replace RL := RdK.below RL b1 (Nat.le_refl _)); clear hw b1 RT) | ((with_reducible refine (AW.out _ h8).mono ?_); rintro e uz ⟨rfl, gz⟩; (replace h8 := chain h8 gz)))
                    go_ret
                    exact ⟨rfl, chain BW.out h8⟩
    · have e1 : SL.length = 0 := by rw [HSL.out]; unfold scL; rw [← HE.out, if_neg hc]; rfl
      have d1 : (ez != 0) = true := by rw [HEZ.out]; simp; omega
      have d2 : (ez == 0) = false := by rw [HEZ.out]; simp; omega
      rw [e1]
      clear HSL HBL HE HEZ hc e1 RL q3
      go_wp2_with ((with_reducible refine (AW.out _ h8).mono ?_); rintro e uz ⟨rfl, gz⟩; (replace h8 := chain h8 gz))
      go_ret
      exact ⟨rfl, chain BW.out h8⟩
end Go.Proofs.YtmjedjhkhjiigaaDoor
