/- Span: the law SpanSums. Written by wip/tools/genz9.py. -/
import Derived.Test.YtbdfcgffkonbiaaGreatDoorQSSC44
import Derived.Test.YtbdfcgffkonbiaaGreatDoorQSSC45
import Derived.Test.YtbdfcgffkonbiaaGreatDoorQSSC46
import Derived.Test.YtbdfcgffkonbiaaGreatDoorQSSC47
import Derived.Test.YtbdfcgffkonbiaaGreatDoorQSSC21
import Derived.Test.YtbdfcgffkonbiaaGreatDoorQSSC22
namespace Go.Proofs.YtbdfcgffkonbiaaGreatDoor
open Go Go.RowKit
set_option linter.unusedVariables false
set_option linter.unusedSimpArgs false
set_option maxRecDepth 100000 in
set_option maxHeartbeats 2000000 in
theorem sums_row11 (CO cs : Array Value) (lv : Nat → List It) (vs : Nat → Int) (f t : List UInt8) (m : Int) (w : World) (hA : RdA w CO cs lv vs f t m) (tab : TabAt w) :
    Calls Tryz.prog 3 #[.agg CO] w fun e w' => e = .returned (.bool true) ∧ Below w.heap.size w w' := by
  obtain ⟨h, hsz, hwf, hsub, h32, h33, h34, hf, ht⟩ := hA
  have TAB := Lib.hid tab
  have hs0 := infoTc h.size
  have z0 := zeroT_run
  have z1 := zT_ne
  obtain ⟨fs, hfs⟩ : ∃ k, k = f.take 60 := ⟨_, rfl⟩
  obtain ⟨ts, hts⟩ : ∃ k, k = t.take 60 := ⟨_, rfl⟩
  have SF0 := fun W => short11_any f W hf
  have ST0 := fun W => short11_any t W ht
  have ff : fs.length ≤ maxLen := by rw [hfs]; exact Nat.le_trans (List.length_take_le _ _) (by decide)
  have tt : ts.length ≤ maxLen := by rw [hts]; exact Nat.le_trans (List.length_take_le _ _) (by decide)
  rw [← hfs] at SF0
  rw [← hts] at ST0
  have SF := Lib.hid SF0
  have ST := Lib.hid ST0
  obtain ⟨lF, hlF⟩ : ∃ lF, lF = fun b => fewL (lv b) := ⟨_, rfl⟩
  have szF : SzT lF := by rw [hlF]; exact fewT_sz lv
  have wfF : WfT lF := by rw [hlF]; exact fewT_wf hwf
  have lenF : ∀ b, b < 16 → (lF b).length ≤ 100 := by rw [hlF]; exact fewT_len lv
  have q1 := heap_alloc_new w (.cells CO 28)
  have bel := (Below.refl w.heap.size w).alloc (Nat.le_refl _) (.cells CO 28)
  obtain ⟨W0, hW0⟩ : ∃ W, W = w.alloc (.cells CO 28) := ⟨_, rfl⟩
  rw [← hW0] at q1 bel
  have Q1 := Lib.hid q1
  have PT := Lib.hid (show ∀ W, Below W0.heap.size W0 W → W.rangeAt w.heap.size 0 cs.toList from fun W g => part_at ((g.block _ (lt_of_block Q1.out)).trans Q1.out) (fun j hj => hsub j (by rw [h.size] at hj; exact hj)))
  have C32 := Lib.hid (show ∀ W, Below W0.heap.size W0 W → W.cell? ⟨w.heap.size, 32, none⟩ = some (.string (str f)) from fun W g => (block_cell ((g.block _ (lt_of_block Q1.out)).trans Q1.out) 32).trans h32)
  have C33 := Lib.hid (show ∀ W, Below W0.heap.size W0 W → W.cell? ⟨w.heap.size, 33, none⟩ = some (.string (str t)) from fun W g => (block_cell ((g.block _ (lt_of_block Q1.out)).trans Q1.out) 33).trans h33)
  have C34 := Lib.hid (show ∀ W, Below W0.heap.size W0 W → W.cell? ⟨w.heap.size, 34, none⟩ = some (.int .i64 m) from fun W g => (block_cell ((g.block _ (lt_of_block Q1.out)).trans Q1.out) 34).trans h34)
  have FW0 := fun W (g : Below W0.heap.size W0 W) => few10_any cs lv vs W ((h.below bel (Nat.le_refl _)).below g (Nat.le_refl _)) hsz
  unfold FewP at FW0
  rw [← hlF] at FW0
  have FW := Lib.hid FW0
  have BEL := Lib.hid bel
  clear h hsz hwf tab hsub h32 h33 h34 hlF FW0 q1 bel SF0 ST0 hfs hts hf ht
  go_enter Tryz.func3, Tryz.ntmps3
  go_wp2_with fail
  rw [← hW0]
  clear hW0
  have hS := Below.drew (Below.refl W0.heap.size W0)
  refine gs_start (S := (fun w' => Below W0.heap.size W0 w')) (by kernel_rfl) ?_
  refine gs_take (i := 0) (d := (some 11)) (v := ?_) rfl rfl (by kernel_rfl) (fun _ _ _ h => h) (by rfl) hS (fun w' hb' => ?_) ?_
  rotate_left
  · (try go_simp); (try with_reducible rfl)
  try simp only [Act.put, List.setIfInBounds_toArray, List.set_cons_zero, List.set_cons_succ]
  refine gs_take (i := 1) (d := (some 12)) (v := ?_) rfl rfl (by kernel_rfl) (fun _ _ _ h => h) (by rfl) hS (fun w' hb' => ?_) ?_
  rotate_left
  · (refine load_part_op _ _ (.tmp 11) ?_ ?_ (PT.out _ hb') Tryz.underlying26 ?_ hs0 <;> rfl); (try go_simp); (try with_reducible rfl)
  try simp only [Act.put, List.setIfInBounds_toArray, List.set_cons_zero, List.set_cons_succ]
  refine gs_take (i := 3) (d := (some 14)) (v := ?_) rfl rfl (by kernel_rfl) (fun _ _ _ h => h) (by rfl) hS (fun w' hb' => ?_) ?_
  rotate_left
  · (try go_simp); (try with_reducible rfl)
  try simp only [Act.put, List.setIfInBounds_toArray, List.set_cons_zero, List.set_cons_succ]
  refine gs_take (i := 4) (d := (some 15)) (v := ?_) rfl rfl (by kernel_rfl) (fun _ _ _ h => h) (by rfl) hS (fun w' hb' => ?_) ?_
  rotate_left
  · have c32 := C32.out _ hb'; (try go_simp); (try with_reducible rfl)
  try simp only [Act.put, List.setIfInBounds_toArray, List.set_cons_zero, List.set_cons_succ]
  refine gs_take (i := 6) (d := (some 17)) (v := ?_) rfl rfl (by kernel_rfl) (fun _ _ _ h => h) (by rfl) hS (fun w' hb' => ?_) ?_
  rotate_left
  · (try go_simp); (try with_reducible rfl)
  try simp only [Act.put, List.setIfInBounds_toArray, List.set_cons_zero, List.set_cons_succ]
  refine gs_take (i := 7) (d := (some 18)) (v := ?_) rfl rfl (by kernel_rfl) (fun _ _ _ h => h) (by rfl) hS (fun w' hb' => ?_) ?_
  rotate_left
  · have c33 := C33.out _ hb'; (try go_simp); (try with_reducible rfl)
  try simp only [Act.put, List.setIfInBounds_toArray, List.set_cons_zero, List.set_cons_succ]
  refine gs_run2 (i := 2) (k := 9) rfl rfl (by kernel_rfl) (by rfl) (by rfl) (fun K hK => ?_) (fun K hK => ?_)
  · skip
    go_simp
    refine (FW.out _ hS).mono ?_
    rintro e y1 ⟨CF, rfl, own, g⟩
    have hS := chain hS g
    have hF := Below.refl y1.heap.size y1
    have RF := Lib.hid own.rd
    refine hK _ _ ⟨hS, ?_⟩
    clear hK K g
    try simp only [Act.put, List.setIfInBounds_toArray, List.set_cons_zero, List.set_cons_succ]
    refine gs_run2 (i := 5) (k := 9) rfl rfl (by kernel_rfl) (by rfl) (by rfl) (fun K hK => ?_) (fun K hK => ?_)
    · skip
      go_simp
      refine (SF.out _).mono ?_
      rintro e w' ⟨rfl, rfl⟩
      refine hK _ _ ⟨hS, ?_⟩
      clear hK K
      try simp only [Act.put, List.setIfInBounds_toArray, List.set_cons_zero, List.set_cons_succ]
      refine gs_run2 (i := 8) (k := 9) rfl rfl (by kernel_rfl) (by rfl) (by rfl) (fun K hK => ?_) (fun K hK => ?_)
      · skip
        go_simp
        refine (ST.out _).mono ?_
        rintro e w' ⟨rfl, rfl⟩
        refine hK _ _ ⟨hS, ?_⟩
        clear hK K
        try simp only [Act.put, List.setIfInBounds_toArray, List.set_cons_zero, List.set_cons_succ]
        refine gs_run (i := 9) rfl (by kernel_rfl) (by rfl) (fun K hK => ?_)
        go_simp
        have qz : (World.alloc y1 (.cells zT 26)).heap[y1.heap.size]? = some (.cells zT 26 (0, 0)) := heap_alloc_new y1 (.cells zT 26)
        have GA0 : W0.heap.size ≤ y1.heap.size := hS.size
        have GAF : y1.heap.size ≤ y1.heap.size := hF.size
        have g := (Below.refl y1.heap.size y1).alloc (Nat.le_refl _) (.cells zT 26)
        have hS : Below W0.heap.size W0 (World.alloc y1 (.cells zT 26)) := hS.alloc hS.size (.cells zT 26)
        have own := own.below g
        have hF := chain hF g
        refine hK _ _ ⟨hS, ?_⟩
        clear hK K g
        obtain ⟨y2, hy⟩ : ∃ W, W = World.alloc y1 (.cells zT 26) := ⟨_, rfl⟩
        rw [← hy] at qz hS own hF ⊢
        clear hy
        try simp only [Act.put, List.setIfInBounds_toArray, List.set_cons_zero, List.set_cons_succ]
        refine gs_run (i := 10) rfl (by kernel_rfl) (by rfl) (fun K hK => ?_)
        have hsF := infoTc own.size
        have hzF : zT.size = CF.size := by rw [own.size]; rfl
        have hoF := own.rd.one
        refine wp_store_row 26 (.tmp 3) (.tmp 13) rfl _ CF rfl rfl _ zT qz hsF hzF hoF ?_
        have qn := setRow_heap _ _ _ CF _ _ qz
        have hS := below_row hS GA0 CF
        have hF := below_row hF GAF CF
        refine hK _ _ ⟨hS, ?_⟩
        clear hK K
        obtain ⟨WS, hWS⟩ : ∃ W, W = World.setRow y2 y1.heap.size CF := ⟨_, rfl⟩
        rw [← hWS] at qn hS hF  ⊢
        clear hWS
        have HT := Lib.hid (show RdT WS CF lF vs from RF.out.below hF (Nat.le_refl _))
        have Q3 := Lib.hid qn
        clear qz qn hF own RF hsF hzF hoF GAF
        try simp only [Act.put, List.setIfInBounds_toArray, List.set_cons_zero, List.set_cons_succ]
        refine gs_take (i := 11) (d := (some 4)) (v := ?_) rfl rfl (by kernel_rfl) (fun _ _ _ h => h) (by rfl) hS (fun w' hb' => ?_) ?_
        rotate_left
        · (try go_simp); (try with_reducible rfl)
        try simp only [Act.put, List.setIfInBounds_toArray, List.set_cons_zero, List.set_cons_succ]
        refine gs_take (i := 12) (d := (some 5)) (v := ?_) rfl rfl (by kernel_rfl) (fun _ _ _ h => h) (by rfl) hS (fun w' hb' => ?_) ?_
        rotate_left
        · (try go_simp); (try with_reducible rfl)
        try simp only [Act.put, List.setIfInBounds_toArray, List.set_cons_zero, List.set_cons_succ]
        refine gs_done (by kernel_rfl) ?_
        have GAW : w.heap.size < y1.heap.size := by have := lt_of_block Q1.out; omega
        obtain ⟨ga, hga⟩ : ∃ ga, ga = y1.heap.size := ⟨_, rfl⟩
        rw [← hga] at GAW Q3 ⊢
        clear hga GA0
        have hsF := infoTc HT.out.size
        have BW := Lib.hid (chain BEL.out hS)
        have TS := Lib.hid (TAB.out.below BW.out)
        have h8 := Below.refl WS.heap.size WS
        clear PT FW C32 C33 C34 SF ST hS z0 z1 hs0
        have SU0 := fun W (g : Below WS.heap.size WS W) => sum11_any CF lF vs fs ts W (TS.out.below g) (HT.out.below g (Nat.le_refl _)) szF ff tt
        have WR0 := fun W (g : Below WS.heap.size WS W) => wrong_any CF lF vs fs ts W (TS.out.below g) (HT.out.below g (Nat.le_refl _)) szF lenF ff tt
        have AW := Lib.hid (fun W (g : Below WS.heap.size WS W) => awake11_any W (TS.out.below g))
        obtain ⟨E, hE⟩ : ∃ X, X = ckE lF vs [fs, ts] := ⟨_, rfl⟩
        by_cases hc : E = 0
        · have hmp : mayTs lF vs 16 = true ∧ patB fs = true ∧ patB ts = true := by
            have h0 := hE.symm.trans hc
            cases hm : mayTs lF vs 16 with
            | false => rw [ck_no hm] at h0; exact absurd h0 (by decide)
            | true =>
              cases hp : ([fs, ts] : List (List UInt8)).all patB with
              | true => exact ⟨rfl, by simpa using hp⟩
              | false => rw [ck_form hm hp] at h0; exact absurd h0 (by decide)
          obtain ⟨hmy, hpf, hpt⟩ := hmp
          have WH0 := fun W (g : Below WS.heap.size WS W) => whole_any CF lF vs fs ts W (TS.out.below g) (HT.out.below g (Nat.le_refl _)) szF lenF hmy hpf hpt ff tt
          have hck : ckE lF vs [fs, ts] = 0 := hE.symm.trans hc
          obtain ⟨R, hR⟩ : ∃ L, L = rngL lF fs ts := ⟨_, rfl⟩
          have hIt : ∀ x ∈ R, ∃ b, b < 16 ∧ x ∈ lF b := fun x hx => by
            rw [hR] at hx
            exact (allS_mem hmy).1 (List.mem_filter.1 hx).1
          have hmR : ∀ x ∈ R, mayI x = true := fun x hx => by
            obtain ⟨b, hb, h⟩ := hIt x hx
            exact isL_may (isT hmy hb) x h
          have hiR : ∀ x ∈ R, V7.fits x.v.i := fun x hx => by
            obtain ⟨b, hb, h⟩ := hIt x hx
            exact wfF b hb x h
          have hlR : R.length ≤ 2000 := by rw [hR]; exact Nat.le_trans (rng_len hmy _ _) (by decide)
          have eI : suI lF vs fs ts = dI R := by unfold suI dI; rw [hck, if_pos rfl, hR]
          have eE : suE lF vs fs ts = dE R := by unfold suE dE; rw [hck, if_pos rfl, hR]
          rw [← hR] at WH0
          rw [eI, eE] at SU0
          rw [hck] at WR0
          have DS := Lib.hid (fun v W (h : RdI W v R) => refSum_any v R W h hmR hiR hlR)
          unfold SumZ at DS
          obtain ⟨di, hdi⟩ : ∃ z, z = dI R := ⟨_, rfl⟩
          obtain ⟨de, hde⟩ : ∃ z : Int, z = (dE R : Int) := ⟨_, rfl⟩
          rw [← hdi, ← hde] at SU0 DS
          have SU := Lib.hid SU0
          have WR := Lib.hid WR0
          have WH := Lib.hid WH0
          clear SU0 WR0 WH0 hE hc hmy hpf hpt hck hR hIt hmR hiR hlR eI eE hdi hde
          have q3 := Q3.out
          go_wp2_with ((with_reducible refine wpList_load_row (o := ⟨some 21, _, _, _, _, _⟩) rfl 26 (.tmp 3) rfl _ rfl _ CF (0, 0) _ q3 Tryz.underlying26 rfl hsF ?_))
          refine (SU.out _ h8).mono ?_
          rintro e v1 ⟨rfl, g⟩
          replace h8 := chain h8 g
          replace q3 := (h8.block _ (lt_of_block Q3.out)).trans Q3.out
          clear g
          go_wp2_with ((with_reducible refine wpList_load_row (o := ⟨some 27, _, _, _, _, _⟩) rfl 26 (.tmp 3) rfl _ rfl _ CF (0, 0) _ q3 Tryz.underlying26 rfl hsF ?_))
          refine (WR.out _ h8).mono ?_
          rintro e v2 ⟨rfl, g⟩
          replace h8 := chain h8 g
          replace q3 := (h8.block _ (lt_of_block Q3.out)).trans Q3.out
          clear g
          go_wp2_with ((with_reducible refine wpList_load_row (o := ⟨some 44, _, _, _, _, _⟩) rfl 26 (.tmp 3) rfl _ rfl _ CF (0, 0) _ q3 Tryz.underlying26 rfl hsF ?_))
          refine (WH.out _ h8).mono ?_
          rintro e v3 ⟨vW, rfl, ownW, g⟩
          obtain ⟨aW, kW, rfl, -, -, RW⟩ := RdK.open (OwnI.rd (w := v3) ownW)
          replace h8 := chain h8 g
          have DX := Lib.hid (DS.out _ v3 RW)
          clear g ownW RW q3
          go_wp2_with fail
          refine DX.out.mono ?_
          rintro e v4 ⟨rfl, g⟩
          replace h8 := chain h8 g
          clear g
          go_wp2_with fail
          refine (AW.out _ h8).mono ?_
          rintro e v5 ⟨rfl, g⟩
          replace h8 := chain h8 g
          go_wp2_with fail
          go_ret
          exact ⟨rfl, chain BW.out h8⟩
        · have n0 : ((E : Int) == 0) = false := beq_eq_false_iff_ne.2 (by omega)
          rw [← hE] at WR0
          have eI : suI lF vs fs ts = 0 := by unfold suI; rw [← hE, if_neg hc]
          have eE : suE lF vs fs ts = E := by unfold suE; rw [← hE, if_neg hc]
          rw [eI, eE] at SU0
          obtain ⟨ez, hez⟩ : ∃ z : Int, z = (E : Int) := ⟨_, rfl⟩
          rw [← hez] at SU0 WR0 n0
          have SU := Lib.hid SU0
          have WR := Lib.hid WR0
          clear SU0 WR0 hE hc eI eE hez
          have q3 := Q3.out
          go_wp2_with ((with_reducible refine wpList_load_row (o := ⟨some 21, _, _, _, _, _⟩) rfl 26 (.tmp 3) rfl _ rfl _ CF (0, 0) _ q3 Tryz.underlying26 rfl hsF ?_))
          refine (SU.out _ h8).mono ?_
          rintro e v1 ⟨rfl, g⟩
          replace h8 := chain h8 g
          replace q3 := (h8.block _ (lt_of_block Q3.out)).trans Q3.out
          clear g
          go_wp2_with ((with_reducible refine wpList_load_row (o := ⟨some 27, _, _, _, _, _⟩) rfl 26 (.tmp 3) rfl _ rfl _ CF (0, 0) _ q3 Tryz.underlying26 rfl hsF ?_))
          refine (WR.out _ h8).mono ?_
          rintro e v2 ⟨rfl, g⟩
          replace h8 := chain h8 g
          clear g q3
          go_wp2_with fail
          refine (AW.out _ h8).mono ?_
          rintro e v5 ⟨rfl, g⟩
          replace h8 := chain h8 g
          go_wp2_with fail
          go_ret
          exact ⟨rfl, chain BW.out h8⟩
      · skip
        go_simp
        have qz : (World.alloc y1 (.cells zT 26)).heap[y1.heap.size]? = some (.cells zT 26 (0, 0)) := heap_alloc_new y1 (.cells zT 26)
        have GA0 : W0.heap.size ≤ y1.heap.size := hS.size
        have GAF : y1.heap.size ≤ y1.heap.size := hF.size
        have g := (Below.refl y1.heap.size y1).alloc (Nat.le_refl _) (.cells zT 26)
        have hS : Below W0.heap.size W0 (World.alloc y1 (.cells zT 26)) := hS.alloc hS.size (.cells zT 26)
        have own := own.below g
        have hF := chain hF g
        refine hK _ _ ⟨hS, ?_⟩
        clear hK K g
        obtain ⟨y2, hy⟩ : ∃ W, W = World.alloc y1 (.cells zT 26) := ⟨_, rfl⟩
        rw [← hy] at qz hS own hF ⊢
        clear hy
        try simp only [Act.put, List.setIfInBounds_toArray, List.set_cons_zero, List.set_cons_succ]
        refine gs_run (i := 8) rfl (by kernel_rfl) (by rfl) (fun K hK => ?_)
        go_simp
        refine (ST.out _).mono ?_
        rintro e w' ⟨rfl, rfl⟩
        refine hK _ _ ⟨hS, ?_⟩
        clear hK K
        try simp only [Act.put, List.setIfInBounds_toArray, List.set_cons_zero, List.set_cons_succ]
        refine gs_run (i := 10) rfl (by kernel_rfl) (by rfl) (fun K hK => ?_)
        have hsF := infoTc own.size
        have hzF : zT.size = CF.size := by rw [own.size]; rfl
        have hoF := own.rd.one
        refine wp_store_row 26 (.tmp 3) (.tmp 13) rfl _ CF rfl rfl _ zT qz hsF hzF hoF ?_
        have qn := setRow_heap _ _ _ CF _ _ qz
        have hS := below_row hS GA0 CF
        have hF := below_row hF GAF CF
        refine hK _ _ ⟨hS, ?_⟩
        clear hK K
        obtain ⟨WS, hWS⟩ : ∃ W, W = World.setRow y2 y1.heap.size CF := ⟨_, rfl⟩
        rw [← hWS] at qn hS hF  ⊢
        clear hWS
        have HT := Lib.hid (show RdT WS CF lF vs from RF.out.below hF (Nat.le_refl _))
        have Q3 := Lib.hid qn
        clear qz qn hF own RF hsF hzF hoF GAF
        try simp only [Act.put, List.setIfInBounds_toArray, List.set_cons_zero, List.set_cons_succ]
        refine gs_take (i := 11) (d := (some 4)) (v := ?_) rfl rfl (by kernel_rfl) (fun _ _ _ h => h) (by rfl) hS (fun w' hb' => ?_) ?_
        rotate_left
        · (try go_simp); (try with_reducible rfl)
        try simp only [Act.put, List.setIfInBounds_toArray, List.set_cons_zero, List.set_cons_succ]
        refine gs_take (i := 12) (d := (some 5)) (v := ?_) rfl rfl (by kernel_rfl) (fun _ _ _ h => h) (by rfl) hS (fun w' hb' => ?_) ?_
        rotate_left
        · (try go_simp); (try with_reducible rfl)
        try simp only [Act.put, List.setIfInBounds_toArray, List.set_cons_zero, List.set_cons_succ]
        refine gs_done (by kernel_rfl) ?_
        have GAW : w.heap.size < y1.heap.size := by have := lt_of_block Q1.out; omega
        obtain ⟨ga, hga⟩ : ∃ ga, ga = y1.heap.size := ⟨_, rfl⟩
        rw [← hga] at GAW Q3 ⊢
        clear hga GA0
        have hsF := infoTc HT.out.size
        have BW := Lib.hid (chain BEL.out hS)
        have TS := Lib.hid (TAB.out.below BW.out)
        have h8 := Below.refl WS.heap.size WS
        clear PT FW C32 C33 C34 SF ST hS z0 z1 hs0
        have SU0 := fun W (g : Below WS.heap.size WS W) => sum11_any CF lF vs fs ts W (TS.out.below g) (HT.out.below g (Nat.le_refl _)) szF ff tt
        have WR0 := fun W (g : Below WS.heap.size WS W) => wrong_any CF lF vs fs ts W (TS.out.below g) (HT.out.below g (Nat.le_refl _)) szF lenF ff tt
        have AW := Lib.hid (fun W (g : Below WS.heap.size WS W) => awake11_any W (TS.out.below g))
        obtain ⟨E, hE⟩ : ∃ X, X = ckE lF vs [fs, ts] := ⟨_, rfl⟩
        by_cases hc : E = 0
        · have hmp : mayTs lF vs 16 = true ∧ patB fs = true ∧ patB ts = true := by
            have h0 := hE.symm.trans hc
            cases hm : mayTs lF vs 16 with
            | false => rw [ck_no hm] at h0; exact absurd h0 (by decide)
            | true =>
              cases hp : ([fs, ts] : List (List UInt8)).all patB with
              | true => exact ⟨rfl, by simpa using hp⟩
              | false => rw [ck_form hm hp] at h0; exact absurd h0 (by decide)
          obtain ⟨hmy, hpf, hpt⟩ := hmp
          have WH0 := fun W (g : Below WS.heap.size WS W) => whole_any CF lF vs fs ts W (TS.out.below g) (HT.out.below g (Nat.le_refl _)) szF lenF hmy hpf hpt ff tt
          have hck : ckE lF vs [fs, ts] = 0 := hE.symm.trans hc
          obtain ⟨R, hR⟩ : ∃ L, L = rngL lF fs ts := ⟨_, rfl⟩
          have hIt : ∀ x ∈ R, ∃ b, b < 16 ∧ x ∈ lF b := fun x hx => by
            rw [hR] at hx
            exact (allS_mem hmy).1 (List.mem_filter.1 hx).1
          have hmR : ∀ x ∈ R, mayI x = true := fun x hx => by
            obtain ⟨b, hb, h⟩ := hIt x hx
            exact isL_may (isT hmy hb) x h
          have hiR : ∀ x ∈ R, V7.fits x.v.i := fun x hx => by
            obtain ⟨b, hb, h⟩ := hIt x hx
            exact wfF b hb x h
          have hlR : R.length ≤ 2000 := by rw [hR]; exact Nat.le_trans (rng_len hmy _ _) (by decide)
          have eI : suI lF vs fs ts = dI R := by unfold suI dI; rw [hck, if_pos rfl, hR]
          have eE : suE lF vs fs ts = dE R := by unfold suE dE; rw [hck, if_pos rfl, hR]
          rw [← hR] at WH0
          rw [eI, eE] at SU0
          rw [hck] at WR0
          have DS := Lib.hid (fun v W (h : RdI W v R) => refSum_any v R W h hmR hiR hlR)
          unfold SumZ at DS
          obtain ⟨di, hdi⟩ : ∃ z, z = dI R := ⟨_, rfl⟩
          obtain ⟨de, hde⟩ : ∃ z : Int, z = (dE R : Int) := ⟨_, rfl⟩
          rw [← hdi, ← hde] at SU0 DS
          have SU := Lib.hid SU0
          have WR := Lib.hid WR0
          have WH := Lib.hid WH0
          clear SU0 WR0 WH0 hE hc hmy hpf hpt hck hR hIt hmR hiR hlR eI eE hdi hde
          have q3 := Q3.out
          go_wp2_with ((with_reducible refine wpList_load_row (o := ⟨some 21, _, _, _, _, _⟩) rfl 26 (.tmp 3) rfl _ rfl _ CF (0, 0) _ q3 Tryz.underlying26 rfl hsF ?_))
          refine (SU.out _ h8).mono ?_
          rintro e v1 ⟨rfl, g⟩
          replace h8 := chain h8 g
          replace q3 := (h8.block _ (lt_of_block Q3.out)).trans Q3.out
          clear g
          go_wp2_with ((with_reducible refine wpList_load_row (o := ⟨some 27, _, _, _, _, _⟩) rfl 26 (.tmp 3) rfl _ rfl _ CF (0, 0) _ q3 Tryz.underlying26 rfl hsF ?_))
          refine (WR.out _ h8).mono ?_
          rintro e v2 ⟨rfl, g⟩
          replace h8 := chain h8 g
          replace q3 := (h8.block _ (lt_of_block Q3.out)).trans Q3.out
          clear g
          go_wp2_with ((with_reducible refine wpList_load_row (o := ⟨some 44, _, _, _, _, _⟩) rfl 26 (.tmp 3) rfl _ rfl _ CF (0, 0) _ q3 Tryz.underlying26 rfl hsF ?_))
          refine (WH.out _ h8).mono ?_
          rintro e v3 ⟨vW, rfl, ownW, g⟩
          obtain ⟨aW, kW, rfl, -, -, RW⟩ := RdK.open (OwnI.rd (w := v3) ownW)
          replace h8 := chain h8 g
          have DX := Lib.hid (DS.out _ v3 RW)
          clear g ownW RW q3
          go_wp2_with fail
          refine DX.out.mono ?_
          rintro e v4 ⟨rfl, g⟩
          replace h8 := chain h8 g
          clear g
          go_wp2_with fail
          refine (AW.out _ h8).mono ?_
          rintro e v5 ⟨rfl, g⟩
          replace h8 := chain h8 g
          go_wp2_with fail
          go_ret
          exact ⟨rfl, chain BW.out h8⟩
        · have n0 : ((E : Int) == 0) = false := beq_eq_false_iff_ne.2 (by omega)
          rw [← hE] at WR0
          have eI : suI lF vs fs ts = 0 := by unfold suI; rw [← hE, if_neg hc]
          have eE : suE lF vs fs ts = E := by unfold suE; rw [← hE, if_neg hc]
          rw [eI, eE] at SU0
          obtain ⟨ez, hez⟩ : ∃ z : Int, z = (E : Int) := ⟨_, rfl⟩
          rw [← hez] at SU0 WR0 n0
          have SU := Lib.hid SU0
          have WR := Lib.hid WR0
          clear SU0 WR0 hE hc eI eE hez
          have q3 := Q3.out
          go_wp2_with ((with_reducible refine wpList_load_row (o := ⟨some 21, _, _, _, _, _⟩) rfl 26 (.tmp 3) rfl _ rfl _ CF (0, 0) _ q3 Tryz.underlying26 rfl hsF ?_))
          refine (SU.out _ h8).mono ?_
          rintro e v1 ⟨rfl, g⟩
          replace h8 := chain h8 g
          replace q3 := (h8.block _ (lt_of_block Q3.out)).trans Q3.out
          clear g
          go_wp2_with ((with_reducible refine wpList_load_row (o := ⟨some 27, _, _, _, _, _⟩) rfl 26 (.tmp 3) rfl _ rfl _ CF (0, 0) _ q3 Tryz.underlying26 rfl hsF ?_))
          refine (WR.out _ h8).mono ?_
          rintro e v2 ⟨rfl, g⟩
          replace h8 := chain h8 g
          clear g q3
          go_wp2_with fail
          refine (AW.out _ h8).mono ?_
          rintro e v5 ⟨rfl, g⟩
          replace h8 := chain h8 g
          go_wp2_with fail
          go_ret
          exact ⟨rfl, chain BW.out h8⟩
    · skip
      go_simp
      have qz : (World.alloc y1 (.cells zT 26)).heap[y1.heap.size]? = some (.cells zT 26 (0, 0)) := heap_alloc_new y1 (.cells zT 26)
      have GA0 : W0.heap.size ≤ y1.heap.size := hS.size
      have GAF : y1.heap.size ≤ y1.heap.size := hF.size
      have g := (Below.refl y1.heap.size y1).alloc (Nat.le_refl _) (.cells zT 26)
      have hS : Below W0.heap.size W0 (World.alloc y1 (.cells zT 26)) := hS.alloc hS.size (.cells zT 26)
      have own := own.below g
      have hF := chain hF g
      refine hK _ _ ⟨hS, ?_⟩
      clear hK K g
      obtain ⟨y2, hy⟩ : ∃ W, W = World.alloc y1 (.cells zT 26) := ⟨_, rfl⟩
      rw [← hy] at qz hS own hF ⊢
      clear hy
      try simp only [Act.put, List.setIfInBounds_toArray, List.set_cons_zero, List.set_cons_succ]
      refine gs_run (i := 5) rfl (by kernel_rfl) (by rfl) (fun K hK => ?_)
      go_simp
      refine (SF.out _).mono ?_
      rintro e w' ⟨rfl, rfl⟩
      refine hK _ _ ⟨hS, ?_⟩
      clear hK K
      try simp only [Act.put, List.setIfInBounds_toArray, List.set_cons_zero, List.set_cons_succ]
      refine gs_run (i := 8) rfl (by kernel_rfl) (by rfl) (fun K hK => ?_)
      go_simp
      refine (ST.out _).mono ?_
      rintro e w' ⟨rfl, rfl⟩
      refine hK _ _ ⟨hS, ?_⟩
      clear hK K
      try simp only [Act.put, List.setIfInBounds_toArray, List.set_cons_zero, List.set_cons_succ]
      refine gs_run (i := 10) rfl (by kernel_rfl) (by rfl) (fun K hK => ?_)
      have hsF := infoTc own.size
      have hzF : zT.size = CF.size := by rw [own.size]; rfl
      have hoF := own.rd.one
      refine wp_store_row 26 (.tmp 3) (.tmp 13) rfl _ CF rfl rfl _ zT qz hsF hzF hoF ?_
      have qn := setRow_heap _ _ _ CF _ _ qz
      have hS := below_row hS GA0 CF
      have hF := below_row hF GAF CF
      refine hK _ _ ⟨hS, ?_⟩
      clear hK K
      obtain ⟨WS, hWS⟩ : ∃ W, W = World.setRow y2 y1.heap.size CF := ⟨_, rfl⟩
      rw [← hWS] at qn hS hF  ⊢
      clear hWS
      have HT := Lib.hid (show RdT WS CF lF vs from RF.out.below hF (Nat.le_refl _))
      have Q3 := Lib.hid qn
      clear qz qn hF own RF hsF hzF hoF GAF
      try simp only [Act.put, List.setIfInBounds_toArray, List.set_cons_zero, List.set_cons_succ]
      refine gs_take (i := 11) (d := (some 4)) (v := ?_) rfl rfl (by kernel_rfl) (fun _ _ _ h => h) (by rfl) hS (fun w' hb' => ?_) ?_
      rotate_left
      · (try go_simp); (try with_reducible rfl)
      try simp only [Act.put, List.setIfInBounds_toArray, List.set_cons_zero, List.set_cons_succ]
      refine gs_take (i := 12) (d := (some 5)) (v := ?_) rfl rfl (by kernel_rfl) (fun _ _ _ h => h) (by rfl) hS (fun w' hb' => ?_) ?_
      rotate_left
      · (try go_simp); (try with_reducible rfl)
      try simp only [Act.put, List.setIfInBounds_toArray, List.set_cons_zero, List.set_cons_succ]
      refine gs_done (by kernel_rfl) ?_
      have GAW : w.heap.size < y1.heap.size := by have := lt_of_block Q1.out; omega
      obtain ⟨ga, hga⟩ : ∃ ga, ga = y1.heap.size := ⟨_, rfl⟩
      rw [← hga] at GAW Q3 ⊢
      clear hga GA0
      have hsF := infoTc HT.out.size
      have BW := Lib.hid (chain BEL.out hS)
      have TS := Lib.hid (TAB.out.below BW.out)
      have h8 := Below.refl WS.heap.size WS
      clear PT FW C32 C33 C34 SF ST hS z0 z1 hs0
      have SU0 := fun W (g : Below WS.heap.size WS W) => sum11_any CF lF vs fs ts W (TS.out.below g) (HT.out.below g (Nat.le_refl _)) szF ff tt
      have WR0 := fun W (g : Below WS.heap.size WS W) => wrong_any CF lF vs fs ts W (TS.out.below g) (HT.out.below g (Nat.le_refl _)) szF lenF ff tt
      have AW := Lib.hid (fun W (g : Below WS.heap.size WS W) => awake11_any W (TS.out.below g))
      obtain ⟨E, hE⟩ : ∃ X, X = ckE lF vs [fs, ts] := ⟨_, rfl⟩
      by_cases hc : E = 0
      · have hmp : mayTs lF vs 16 = true ∧ patB fs = true ∧ patB ts = true := by
          have h0 := hE.symm.trans hc
          cases hm : mayTs lF vs 16 with
          | false => rw [ck_no hm] at h0; exact absurd h0 (by decide)
          | true =>
            cases hp : ([fs, ts] : List (List UInt8)).all patB with
            | true => exact ⟨rfl, by simpa using hp⟩
            | false => rw [ck_form hm hp] at h0; exact absurd h0 (by decide)
        obtain ⟨hmy, hpf, hpt⟩ := hmp
        have WH0 := fun W (g : Below WS.heap.size WS W) => whole_any CF lF vs fs ts W (TS.out.below g) (HT.out.below g (Nat.le_refl _)) szF lenF hmy hpf hpt ff tt
        have hck : ckE lF vs [fs, ts] = 0 := hE.symm.trans hc
        obtain ⟨R, hR⟩ : ∃ L, L = rngL lF fs ts := ⟨_, rfl⟩
        have hIt : ∀ x ∈ R, ∃ b, b < 16 ∧ x ∈ lF b := fun x hx => by
          rw [hR] at hx
          exact (allS_mem hmy).1 (List.mem_filter.1 hx).1
        have hmR : ∀ x ∈ R, mayI x = true := fun x hx => by
          obtain ⟨b, hb, h⟩ := hIt x hx
          exact isL_may (isT hmy hb) x h
        have hiR : ∀ x ∈ R, V7.fits x.v.i := fun x hx => by
          obtain ⟨b, hb, h⟩ := hIt x hx
          exact wfF b hb x h
        have hlR : R.length ≤ 2000 := by rw [hR]; exact Nat.le_trans (rng_len hmy _ _) (by decide)
        have eI : suI lF vs fs ts = dI R := by unfold suI dI; rw [hck, if_pos rfl, hR]
        have eE : suE lF vs fs ts = dE R := by unfold suE dE; rw [hck, if_pos rfl, hR]
        rw [← hR] at WH0
        rw [eI, eE] at SU0
        rw [hck] at WR0
        have DS := Lib.hid (fun v W (h : RdI W v R) => refSum_any v R W h hmR hiR hlR)
        unfold SumZ at DS
        obtain ⟨di, hdi⟩ : ∃ z, z = dI R := ⟨_, rfl⟩
        obtain ⟨de, hde⟩ : ∃ z : Int, z = (dE R : Int) := ⟨_, rfl⟩
        rw [← hdi, ← hde] at SU0 DS
        have SU := Lib.hid SU0
        have WR := Lib.hid WR0
        have WH := Lib.hid WH0
        clear SU0 WR0 WH0 hE hc hmy hpf hpt hck hR hIt hmR hiR hlR eI eE hdi hde
        have q3 := Q3.out
        go_wp2_with ((with_reducible refine wpList_load_row (o := ⟨some 21, _, _, _, _, _⟩) rfl 26 (.tmp 3) rfl _ rfl _ CF (0, 0) _ q3 Tryz.underlying26 rfl hsF ?_))
        refine (SU.out _ h8).mono ?_
        rintro e v1 ⟨rfl, g⟩
        replace h8 := chain h8 g
        replace q3 := (h8.block _ (lt_of_block Q3.out)).trans Q3.out
        clear g
        go_wp2_with ((with_reducible refine wpList_load_row (o := ⟨some 27, _, _, _, _, _⟩) rfl 26 (.tmp 3) rfl _ rfl _ CF (0, 0) _ q3 Tryz.underlying26 rfl hsF ?_))
        refine (WR.out _ h8).mono ?_
        rintro e v2 ⟨rfl, g⟩
        replace h8 := chain h8 g
        replace q3 := (h8.block _ (lt_of_block Q3.out)).trans Q3.out
        clear g
        go_wp2_with ((with_reducible refine wpList_load_row (o := ⟨some 44, _, _, _, _, _⟩) rfl 26 (.tmp 3) rfl _ rfl _ CF (0, 0) _ q3 Tryz.underlying26 rfl hsF ?_))
        refine (WH.out _ h8).mono ?_
        rintro e v3 ⟨vW, rfl, ownW, g⟩
        obtain ⟨aW, kW, rfl, -, -, RW⟩ := RdK.open (OwnI.rd (w := v3) ownW)
        replace h8 := chain h8 g
        have DX := Lib.hid (DS.out _ v3 RW)
        clear g ownW RW q3
        go_wp2_with fail
        refine DX.out.mono ?_
        rintro e v4 ⟨rfl, g⟩
        replace h8 := chain h8 g
        clear g
        go_wp2_with fail
        refine (AW.out _ h8).mono ?_
        rintro e v5 ⟨rfl, g⟩
        replace h8 := chain h8 g
        go_wp2_with fail
        go_ret
        exact ⟨rfl, chain BW.out h8⟩
      · have n0 : ((E : Int) == 0) = false := beq_eq_false_iff_ne.2 (by omega)
        rw [← hE] at WR0
        have eI : suI lF vs fs ts = 0 := by unfold suI; rw [← hE, if_neg hc]
        have eE : suE lF vs fs ts = E := by unfold suE; rw [← hE, if_neg hc]
        rw [eI, eE] at SU0
        obtain ⟨ez, hez⟩ : ∃ z : Int, z = (E : Int) := ⟨_, rfl⟩
        rw [← hez] at SU0 WR0 n0
        have SU := Lib.hid SU0
        have WR := Lib.hid WR0
        clear SU0 WR0 hE hc eI eE hez
        have q3 := Q3.out
        go_wp2_with ((with_reducible refine wpList_load_row (o := ⟨some 21, _, _, _, _, _⟩) rfl 26 (.tmp 3) rfl _ rfl _ CF (0, 0) _ q3 Tryz.underlying26 rfl hsF ?_))
        refine (SU.out _ h8).mono ?_
        rintro e v1 ⟨rfl, g⟩
        replace h8 := chain h8 g
        replace q3 := (h8.block _ (lt_of_block Q3.out)).trans Q3.out
        clear g
        go_wp2_with ((with_reducible refine wpList_load_row (o := ⟨some 27, _, _, _, _, _⟩) rfl 26 (.tmp 3) rfl _ rfl _ CF (0, 0) _ q3 Tryz.underlying26 rfl hsF ?_))
        refine (WR.out _ h8).mono ?_
        rintro e v2 ⟨rfl, g⟩
        replace h8 := chain h8 g
        clear g q3
        go_wp2_with fail
        refine (AW.out _ h8).mono ?_
        rintro e v5 ⟨rfl, g⟩
        replace h8 := chain h8 g
        go_wp2_with fail
        go_ret
        exact ⟨rfl, chain BW.out h8⟩
  · skip
    go_simp
    have qz : ((World.alloc W0 (.cells zT 26)).drew).heap[W0.heap.size]? = some (.cells zT 26 (0, 0)) := heap_alloc_new W0 (.cells zT 26)
    have GA0 : W0.heap.size ≤ W0.heap.size := hS.size
    have g := (Below.refl W0.drew.heap.size W0.drew).alloc (Nat.le_refl _) (.cells zT 26)
    have hS : Below W0.heap.size W0 ((World.alloc W0 (.cells zT 26)).drew) := Below.drew ((Below.refl W0.heap.size W0).alloc (Nat.le_refl _) _)
    refine hK _ _ ⟨hS, ?_⟩
    clear hK K g
    obtain ⟨y1, hy⟩ : ∃ W, W = (World.alloc W0 (.cells zT 26)).drew := ⟨_, rfl⟩
    rw [← hy] at qz hS ⊢
    clear hy
    try simp only [Act.put, List.setIfInBounds_toArray, List.set_cons_zero, List.set_cons_succ]
    refine gs_run (i := 2) rfl (by kernel_rfl) (by rfl) (fun K hK => ?_)
    go_simp
    have bF := lt_of_block qz
    refine (FW.out _ hS).mono ?_
    rintro e y2 ⟨CF, rfl, own, g⟩
    have hS := chain hS g
    have qz := (g.block _ (lt_of_block qz)).trans qz
    have hF := Below.refl y2.heap.size y2
    have RF := Lib.hid own.rd
    refine hK _ _ ⟨hS, ?_⟩
    clear hK K g
    try simp only [Act.put, List.setIfInBounds_toArray, List.set_cons_zero, List.set_cons_succ]
    refine gs_run (i := 5) rfl (by kernel_rfl) (by rfl) (fun K hK => ?_)
    go_simp
    refine (SF.out _).mono ?_
    rintro e w' ⟨rfl, rfl⟩
    refine hK _ _ ⟨hS, ?_⟩
    clear hK K
    try simp only [Act.put, List.setIfInBounds_toArray, List.set_cons_zero, List.set_cons_succ]
    refine gs_run (i := 8) rfl (by kernel_rfl) (by rfl) (fun K hK => ?_)
    go_simp
    refine (ST.out _).mono ?_
    rintro e w' ⟨rfl, rfl⟩
    refine hK _ _ ⟨hS, ?_⟩
    clear hK K
    try simp only [Act.put, List.setIfInBounds_toArray, List.set_cons_zero, List.set_cons_succ]
    refine gs_run (i := 10) rfl (by kernel_rfl) (by rfl) (fun K hK => ?_)
    have hsF := infoTc own.size
    have hzF : zT.size = CF.size := by rw [own.size]; rfl
    have hoF := own.rd.one
    refine wp_store_row 26 (.tmp 3) (.tmp 13) rfl _ CF rfl rfl _ zT qz hsF hzF hoF ?_
    have qn := setRow_heap _ _ _ CF _ _ qz
    have hS := below_row hS GA0 CF
    have own := own.moved (w' := World.setRow y2 W0.heap.size CF) (fun k hk _ => by rw [setRow_other _ _ _ _ (by omega)])
    refine hK _ _ ⟨hS, ?_⟩
    clear hK K
    obtain ⟨WS, hWS⟩ : ∃ W, W = World.setRow y2 W0.heap.size CF := ⟨_, rfl⟩
    rw [← hWS] at qn hS own  ⊢
    clear hWS
    have HT := Lib.hid (show RdT WS CF lF vs from own.rd)
    have Q3 := Lib.hid qn
    clear qz qn hF own RF hsF hzF hoF bF
    try simp only [Act.put, List.setIfInBounds_toArray, List.set_cons_zero, List.set_cons_succ]
    refine gs_take (i := 11) (d := (some 4)) (v := ?_) rfl rfl (by kernel_rfl) (fun _ _ _ h => h) (by rfl) hS (fun w' hb' => ?_) ?_
    rotate_left
    · (try go_simp); (try with_reducible rfl)
    try simp only [Act.put, List.setIfInBounds_toArray, List.set_cons_zero, List.set_cons_succ]
    refine gs_take (i := 12) (d := (some 5)) (v := ?_) rfl rfl (by kernel_rfl) (fun _ _ _ h => h) (by rfl) hS (fun w' hb' => ?_) ?_
    rotate_left
    · (try go_simp); (try with_reducible rfl)
    try simp only [Act.put, List.setIfInBounds_toArray, List.set_cons_zero, List.set_cons_succ]
    refine gs_done (by kernel_rfl) ?_
    have GAW : w.heap.size < W0.heap.size := by have := lt_of_block Q1.out; omega
    obtain ⟨ga, hga⟩ : ∃ ga, ga = W0.heap.size := ⟨_, rfl⟩
    rw [← hga] at GAW Q3 ⊢
    clear hga GA0
    have hsF := infoTc HT.out.size
    have BW := Lib.hid (chain BEL.out hS)
    have TS := Lib.hid (TAB.out.below BW.out)
    have h8 := Below.refl WS.heap.size WS
    clear PT FW C32 C33 C34 SF ST hS z0 z1 hs0
    have SU0 := fun W (g : Below WS.heap.size WS W) => sum11_any CF lF vs fs ts W (TS.out.below g) (HT.out.below g (Nat.le_refl _)) szF ff tt
    have WR0 := fun W (g : Below WS.heap.size WS W) => wrong_any CF lF vs fs ts W (TS.out.below g) (HT.out.below g (Nat.le_refl _)) szF lenF ff tt
    have AW := Lib.hid (fun W (g : Below WS.heap.size WS W) => awake11_any W (TS.out.below g))
    obtain ⟨E, hE⟩ : ∃ X, X = ckE lF vs [fs, ts] := ⟨_, rfl⟩
    by_cases hc : E = 0
    · have hmp : mayTs lF vs 16 = true ∧ patB fs = true ∧ patB ts = true := by
        have h0 := hE.symm.trans hc
        cases hm : mayTs lF vs 16 with
        | false => rw [ck_no hm] at h0; exact absurd h0 (by decide)
        | true =>
          cases hp : ([fs, ts] : List (List UInt8)).all patB with
          | true => exact ⟨rfl, by simpa using hp⟩
          | false => rw [ck_form hm hp] at h0; exact absurd h0 (by decide)
      obtain ⟨hmy, hpf, hpt⟩ := hmp
      have WH0 := fun W (g : Below WS.heap.size WS W) => whole_any CF lF vs fs ts W (TS.out.below g) (HT.out.below g (Nat.le_refl _)) szF lenF hmy hpf hpt ff tt
      have hck : ckE lF vs [fs, ts] = 0 := hE.symm.trans hc
      obtain ⟨R, hR⟩ : ∃ L, L = rngL lF fs ts := ⟨_, rfl⟩
      have hIt : ∀ x ∈ R, ∃ b, b < 16 ∧ x ∈ lF b := fun x hx => by
        rw [hR] at hx
        exact (allS_mem hmy).1 (List.mem_filter.1 hx).1
      have hmR : ∀ x ∈ R, mayI x = true := fun x hx => by
        obtain ⟨b, hb, h⟩ := hIt x hx
        exact isL_may (isT hmy hb) x h
      have hiR : ∀ x ∈ R, V7.fits x.v.i := fun x hx => by
        obtain ⟨b, hb, h⟩ := hIt x hx
        exact wfF b hb x h
      have hlR : R.length ≤ 2000 := by rw [hR]; exact Nat.le_trans (rng_len hmy _ _) (by decide)
      have eI : suI lF vs fs ts = dI R := by unfold suI dI; rw [hck, if_pos rfl, hR]
      have eE : suE lF vs fs ts = dE R := by unfold suE dE; rw [hck, if_pos rfl, hR]
      rw [← hR] at WH0
      rw [eI, eE] at SU0
      rw [hck] at WR0
      have DS := Lib.hid (fun v W (h : RdI W v R) => refSum_any v R W h hmR hiR hlR)
      unfold SumZ at DS
      obtain ⟨di, hdi⟩ : ∃ z, z = dI R := ⟨_, rfl⟩
      obtain ⟨de, hde⟩ : ∃ z : Int, z = (dE R : Int) := ⟨_, rfl⟩
      rw [← hdi, ← hde] at SU0 DS
      have SU := Lib.hid SU0
      have WR := Lib.hid WR0
      have WH := Lib.hid WH0
      clear SU0 WR0 WH0 hE hc hmy hpf hpt hck hR hIt hmR hiR hlR eI eE hdi hde
      have q3 := Q3.out
      go_wp2_with ((with_reducible refine wpList_load_row (o := ⟨some 21, _, _, _, _, _⟩) rfl 26 (.tmp 3) rfl _ rfl _ CF (0, 0) _ q3 Tryz.underlying26 rfl hsF ?_))
      refine (SU.out _ h8).mono ?_
      rintro e v1 ⟨rfl, g⟩
      replace h8 := chain h8 g
      replace q3 := (h8.block _ (lt_of_block Q3.out)).trans Q3.out
      clear g
      go_wp2_with ((with_reducible refine wpList_load_row (o := ⟨some 27, _, _, _, _, _⟩) rfl 26 (.tmp 3) rfl _ rfl _ CF (0, 0) _ q3 Tryz.underlying26 rfl hsF ?_))
      refine (WR.out _ h8).mono ?_
      rintro e v2 ⟨rfl, g⟩
      replace h8 := chain h8 g
      replace q3 := (h8.block _ (lt_of_block Q3.out)).trans Q3.out
      clear g
      go_wp2_with ((with_reducible refine wpList_load_row (o := ⟨some 44, _, _, _, _, _⟩) rfl 26 (.tmp 3) rfl _ rfl _ CF (0, 0) _ q3 Tryz.underlying26 rfl hsF ?_))
      refine (WH.out _ h8).mono ?_
      rintro e v3 ⟨vW, rfl, ownW, g⟩
      obtain ⟨aW, kW, rfl, -, -, RW⟩ := RdK.open (OwnI.rd (w := v3) ownW)
      replace h8 := chain h8 g
      have DX := Lib.hid (DS.out _ v3 RW)
      clear g ownW RW q3
      go_wp2_with fail
      refine DX.out.mono ?_
      rintro e v4 ⟨rfl, g⟩
      replace h8 := chain h8 g
      clear g
      go_wp2_with fail
      refine (AW.out _ h8).mono ?_
      rintro e v5 ⟨rfl, g⟩
      replace h8 := chain h8 g
      go_wp2_with fail
      go_ret
      exact ⟨rfl, chain BW.out h8⟩
    · have n0 : ((E : Int) == 0) = false := beq_eq_false_iff_ne.2 (by omega)
      rw [← hE] at WR0
      have eI : suI lF vs fs ts = 0 := by unfold suI; rw [← hE, if_neg hc]
      have eE : suE lF vs fs ts = E := by unfold suE; rw [← hE, if_neg hc]
      rw [eI, eE] at SU0
      obtain ⟨ez, hez⟩ : ∃ z : Int, z = (E : Int) := ⟨_, rfl⟩
      rw [← hez] at SU0 WR0 n0
      have SU := Lib.hid SU0
      have WR := Lib.hid WR0
      clear SU0 WR0 hE hc eI eE hez
      have q3 := Q3.out
      go_wp2_with ((with_reducible refine wpList_load_row (o := ⟨some 21, _, _, _, _, _⟩) rfl 26 (.tmp 3) rfl _ rfl _ CF (0, 0) _ q3 Tryz.underlying26 rfl hsF ?_))
      refine (SU.out _ h8).mono ?_
      rintro e v1 ⟨rfl, g⟩
      replace h8 := chain h8 g
      replace q3 := (h8.block _ (lt_of_block Q3.out)).trans Q3.out
      clear g
      go_wp2_with ((with_reducible refine wpList_load_row (o := ⟨some 27, _, _, _, _, _⟩) rfl 26 (.tmp 3) rfl _ rfl _ CF (0, 0) _ q3 Tryz.underlying26 rfl hsF ?_))
      refine (WR.out _ h8).mono ?_
      rintro e v2 ⟨rfl, g⟩
      replace h8 := chain h8 g
      clear g q3
      go_wp2_with fail
      refine (AW.out _ h8).mono ?_
      rintro e v5 ⟨rfl, g⟩
      replace h8 := chain h8 g
      go_wp2_with fail
      go_ret
      exact ⟨rfl, chain BW.out h8⟩
end Go.Proofs.YtbdfcgffkonbiaaGreatDoor
