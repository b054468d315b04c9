/- Trunks: the law TrunkReplaces, a way. Written by wip/tools/gen10v.py. -/
import Derived.Test.YtmjedjhkhjiigaaDoorQTRC43
import Derived.Test.YtmjedjhkhjiigaaDoorQTRC36
namespace Go.Proofs.YtmjedjhkhjiigaaDoor
open Go Go.RowKit
set_option linter.unusedVariables false
set_option linter.unusedSimpArgs false
set_option maxRecDepth 100000 in
set_option maxHeartbeats 1000000 in
theorem repF (CO cs : Array Value) (lv : Nat → List It) (vs : Nat → Int) (b ver : Int) (vl : Value) (l : List It) (w : World) (tab : TabAt w) (h : RdT w cs lv vs) (hsz : SzT lv) (hl : RdI w vl l) (hszl : SzI l)
    (hsub : ∀ j, j < 32 → CO[j]? = cs[j]?) (h32 : CO[32]? = some (.int .i64 b)) (h33 : CO[33]? = some (.int .i64 ver)) (h34 : CO[34]? = some vl) (nb : Nat) (hnb : b = (nb : Int)) (hb16 : nb < 16) (hm : mayTs (fun b => fewL (lv b)) vs 16 = true) (hf : mayT (nb : Int) (fewL l) ver = false) :
    Calls Tryd.prog 5 #[.agg CO] w fun e w' => e = .returned (.bool true) ∧ Below w.heap.size w w' := by
  have TAB := Lib.hid tab
  have hs0 := infoTc h.size
  have z0 := zeroT_run
  have z1 := zT_ne
  obtain ⟨i0, hi, hz0, hz1, hz2⟩ := info_parts item_info
  obtain ⟨aL, cL, rfl, -, -, -⟩ := RdK.open hl
  obtain ⟨lF, hlF⟩ : ∃ lF, lF = fun b => fewL (lv b) := ⟨_, rfl⟩
  have szF : SzT lF := by rw [hlF]; exact fewT_sz lv
  have lenF : ∀ b, b < 16 → (lF b).length ≤ 100 := by rw [hlF]; exact fewT_len lv
  obtain ⟨L, hL⟩ : ∃ L, L = fewL l := ⟨_, rfl⟩
  have szL : SzI L := by rw [hL]; exact fewL_sz l
  have lenL : L.length ≤ 100 := by rw [hL]; exact Nat.le_trans (fewL_len l) (by decide)
  have q1 := heap_alloc_new w (.cells CO 53)
  have bel := (Below.refl w.heap.size w).alloc (Nat.le_refl _) (.cells CO 53)
  obtain ⟨W0, hW0⟩ : ∃ W, W = w.alloc (.cells CO 53) := ⟨_, rfl⟩
  rw [← hW0] at q1 bel
  have Q1 := Lib.hid q1
  have PT := Lib.hid (show ∀ W, Below W0.heap.size W0 W → W.rangeAt w.heap.size 0 cs.toList from fun W g => part_at ((g.block _ (lt_of_block Q1.out)).trans Q1.out) (fun j hj => hsub j (by rw [h.size] at hj; exact hj)))
  have C34 := Lib.hid (show ∀ W, Below W0.heap.size W0 W → W.cell? ⟨w.heap.size, 34, none⟩ = some (.slice aL l.length cL) from fun W g => (block_cell ((g.block _ (lt_of_block Q1.out)).trans Q1.out) 34).trans h34)
  have C32 := Lib.hid (show ∀ W, Below W0.heap.size W0 W → W.cell? ⟨w.heap.size, 32, none⟩ = some (.int .i64 b) from fun W g => (block_cell ((g.block _ (lt_of_block Q1.out)).trans Q1.out) 32).trans h32)
  have C33 := Lib.hid (show ∀ W, Below W0.heap.size W0 W → W.cell? ⟨w.heap.size, 33, none⟩ = some (.int .i64 ver) from fun W g => (block_cell ((g.block _ (lt_of_block Q1.out)).trans Q1.out) 33).trans h33)
  have FW0 := fun W (g : Below W0.heap.size W0 W) => few10_any cs lv vs W ((h.below bel (Nat.le_refl _)).below g (Nat.le_refl _)) hsz
  unfold FewP at FW0
  rw [← hlF] at FW0
  rw [← hlF] at hm
  have HM := Lib.hid hm
  clear hm
  subst hnb
  rw [← hL] at hf
  have HF := Lib.hid hf
  clear hf
  have FW := Lib.hid FW0
  have IT0 := fun W (g : Below W0.heap.size W0 W) => items10_any (.slice aL l.length cL) l W ((hl.below bel (Nat.le_refl _)).below g (Nat.le_refl _)) hszl
  rw [← hL] at IT0
  have IT := Lib.hid IT0
  have BEL := Lib.hid bel
  clear h hsz tab hl hszl hsub h32 h33 h34 hL hlF FW0 IT0 q1 bel
  go_enter Tryd.func5, Tryd.ntmps5
  go_wp2_with fail
  rw [← hW0]
  clear hW0
  have hS := Below.drew (Below.refl W0.heap.size W0)
  refine gs_start (S := (fun w' => Below W0.heap.size W0 w')) (by kernel_rfl) ?_
  refine gs_take (i := 0) (d := (some 9)) (v := ?_) rfl rfl (by kernel_rfl) (fun _ _ _ h => h) (by rfl) hS (fun w' hb' => ?_) ?_
  rotate_left
  · (try go_simp); (try with_reducible rfl)
  try simp only [Act.put, List.setIfInBounds_toArray, List.set_cons_zero, List.set_cons_succ]
  refine gs_take (i := 1) (d := (some 10)) (v := ?_) rfl rfl (by kernel_rfl) (fun _ _ _ h => h) (by rfl) hS (fun w' hb' => ?_) ?_
  rotate_left
  · (refine load_part_op _ _ (.tmp 9) ?_ ?_ (PT.out _ hb') Tryd.underlying26 ?_ hs0 <;> rfl); (try go_simp); (try with_reducible rfl)
  try simp only [Act.put, List.setIfInBounds_toArray, List.set_cons_zero, List.set_cons_succ]
  refine gs_take (i := 3) (d := (some 12)) (v := ?_) rfl rfl (by kernel_rfl) (fun _ _ _ h => h) (by rfl) hS (fun w' hb' => ?_) ?_
  rotate_left
  · (try go_simp); (try with_reducible rfl)
  try simp only [Act.put, List.setIfInBounds_toArray, List.set_cons_zero, List.set_cons_succ]
  refine gs_take (i := 4) (d := (some 13)) (v := ?_) rfl rfl (by kernel_rfl) (fun _ _ _ h => h) (by rfl) hS (fun w' hb' => ?_) ?_
  rotate_left
  · have c34 := C34.out _ hb'; (try go_simp); (try with_reducible rfl)
  try simp only [Act.put, List.setIfInBounds_toArray, List.set_cons_zero, List.set_cons_succ]
  refine gs_run2 (i := 2) (k := 6) rfl rfl (by kernel_rfl) (by rfl) (by rfl) (fun K hK => ?_) (fun K hK => ?_)
  · skip
    go_simp
    refine (FW.out _ hS).mono ?_
    rintro e y1 ⟨CF, rfl, own, g⟩
    have hS := chain hS g
    have hF := Below.refl y1.heap.size y1
    have RF := Lib.hid own.rd
    refine hK _ _ ⟨hS, ?_⟩
    clear hK K g
    try simp only [Act.put, List.setIfInBounds_toArray, List.set_cons_zero, List.set_cons_succ]
    refine gs_run2 (i := 5) (k := 6) rfl rfl (by kernel_rfl) (by rfl) (by rfl) (fun K hK => ?_) (fun K hK => ?_)
    · skip
      go_simp
      refine (IT.out _ hS).mono ?_
      rintro e y2 ⟨vI, rfl, oI, g⟩
      have hS := chain hS g
      have own := own.below g
      have hF := chain hF g
      have hI := Below.refl y2.heap.size y2
      have RI0 := Lib.hid (OwnI.rd (w := y2) oI)
      refine hK _ _ ⟨hS, ?_⟩
      clear hK K g
      try simp only [Act.put, List.setIfInBounds_toArray, List.set_cons_zero, List.set_cons_succ]
      refine gs_run (i := 6) rfl (by kernel_rfl) (by rfl) (fun K hK => ?_)
      go_simp
      have qz : (World.alloc y2 (.cells zT 26)).heap[y2.heap.size]? = some (.cells zT 26 (0, 0)) := heap_alloc_new y2 (.cells zT 26)
      have GA0 : W0.heap.size ≤ y2.heap.size := hS.size
      have GAF : y1.heap.size ≤ y2.heap.size := hF.size
      have GAI : y2.heap.size ≤ y2.heap.size := hI.size
      have g := (Below.refl y2.heap.size y2).alloc (Nat.le_refl _) (.cells zT 26)
      have hS : Below W0.heap.size W0 (World.alloc y2 (.cells zT 26)) := hS.alloc hS.size (.cells zT 26)
      have own := own.below g
      have hF := chain hF g
      have oI := own_moved2 oI (fun k _ hk => g.block k hk)
      have hI := chain hI g
      refine hK _ _ ⟨hS, ?_⟩
      clear hK K g
      obtain ⟨y3, hy⟩ : ∃ W, W = World.alloc y2 (.cells zT 26) := ⟨_, rfl⟩
      rw [← hy] at qz hS own hF oI hI ⊢
      clear hy
      try simp only [Act.put, List.setIfInBounds_toArray, List.set_cons_zero, List.set_cons_succ]
      refine gs_run (i := 7) rfl (by kernel_rfl) (by rfl) (fun K hK => ?_)
      have hsF := infoTc own.size
      have hzF : zT.size = CF.size := by rw [own.size]; rfl
      have hoF := own.rd.one
      refine wp_store_row 26 (.tmp 3) (.tmp 11) rfl _ CF rfl rfl _ zT qz hsF hzF hoF ?_
      have qn := setRow_heap _ _ _ CF _ _ qz
      have hS := below_row hS GA0 CF
      have hF := below_row hF GAF CF
      have hI := below_row hI GAI CF
      refine hK _ _ ⟨hS, ?_⟩
      clear hK K
      obtain ⟨WS, hWS⟩ : ∃ W, W = World.setRow y3 y2.heap.size CF := ⟨_, rfl⟩
      rw [← hWS] at qn hS hF hI ⊢
      clear hWS
      have KT : Hid (∀ W', Below WS.heap.size WS W' → ∀ n m u1 u2, RdT ((W'.setCell ⟨y2.heap.size, n, none⟩ u1).setCell ⟨y2.heap.size, m, none⟩ u2) CF lF vs) := Lib.hid (fun W' g n m u1 u2 => RF.out.below (((chain hF g).setCell (p := ⟨y2.heap.size, n, none⟩) GAF u1).setCell (p := ⟨y2.heap.size, m, none⟩) GAF u2) (Nat.le_refl _))
      have KI : Hid (∀ W', Below WS.heap.size WS W' → ∀ n m u1 u2, RdI ((W'.setCell ⟨y2.heap.size, n, none⟩ u1).setCell ⟨y2.heap.size, m, none⟩ u2) vI L) := Lib.hid (fun W' g n m u1 u2 => RI0.out.below (((chain hI g).setCell (p := ⟨y2.heap.size, n, none⟩) GAI u1).setCell (p := ⟨y2.heap.size, m, none⟩) GAI u2) (Nat.le_refl _))
      have HT := Lib.hid (show RdT WS CF lF vs from RF.out.below hF (Nat.le_refl _))
      have RI := (show RdI WS vI L from RI0.out.below hI (Nat.le_refl _))
      have Q3 := Lib.hid qn
      clear qz qn hF hI own oI RF RI0 GAF GAI
      try simp only [Act.put, List.setIfInBounds_toArray, List.set_cons_zero, List.set_cons_succ]
      refine gs_take (i := 8) (d := (some 4)) (v := ?_) rfl rfl (by kernel_rfl) (fun _ _ _ h => h) (by rfl) hS (fun w' hb' => ?_) ?_
      rotate_left
      · (try go_simp); (try with_reducible rfl)
      try simp only [Act.put, List.setIfInBounds_toArray, List.set_cons_zero, List.set_cons_succ]
      refine gs_done (by kernel_rfl) ?_
      have GAW : w.heap.size < y2.heap.size := by have := lt_of_block Q1.out; omega
      obtain ⟨ga, hga⟩ : ∃ ga, ga = y2.heap.size := ⟨_, rfl⟩
      rw [← hga] at GAW Q3 KT KI ⊢
      clear hga GA0
      have hsF := infoTc HT.out.size
      have hoF := HT.out.one
      have TS0 := Lib.hid (TAB.out.below (chain BEL.out hS))
      obtain ⟨ai, ci, rfl, hc1, hc2, RI1⟩ := RdK.open RI
      have HI := Lib.hid (show RdI WS (.slice ai L.length ci) L from RI1)
      clear RI RI1
      have BW := Lib.hid hS
      have LIT := Lib.hid (World.ownsRow_lit (e := 32) (size := 5) WS #[] 0 (Nat.le_refl _) (by decide) rfl)
      have BL := (Below.refl WS.heap.size WS).alloc (Nat.le_refl _) (.cells #[] 32)
      go_wp2_with (first
        | (at_builtin; refine wpList_app_rdk itC_len (by decide) WS rfl (.tmp 15) (.tmp 16) 22 rfl WS.heap.size 32 i0 (.agg #[.string ⟨#[]⟩, .int .i64 0, .int .i64 0, .string ⟨#[]⟩, .int .i64 0]) 56 Tryd.underlying22 hi hz0 hz1 hz2 rfl (.slice (some ⟨WS.heap.size, 0, none⟩) 0 0) [] rfl LIT.out (.slice ai L.length ci) L rfl (HI.out.below BL (Nat.le_refl _)) itC_one (by unfold maxLen; simp; omega) (by simp; omega) (Nat.le_refl _) BL ?_; intro vr w6 hown6 b6 hq6; clear hq6; rw [List.nil_append] at hown6; (obtain ⟨ar, cr, rfl, kr1, kr2, RO1⟩ := RdK.open (own_rdk itC_len hown6)); have RO := Lib.hid (show RdI w6 (.slice ar L.length cr) L from RO1); have OW6 := Lib.hid hown6; clear hown6 RO1; have q3 := (b6.block _ (lt_of_block Q3.out)).trans Q3.out; have c32 := C32.out _ (chain BW.out b6); have c33 := C33.out _ (chain BW.out b6))
        | ((with_reducible refine wpList_load_row (o := ⟨some 19, _, _, _, _, _⟩) rfl 26 (.tmp 3) rfl _ rfl _ CF (0, 0) _ q3 Tryd.underlying26 rfl hsF ?_)))
      clear q3 c32 c33
      refine (repl_no CF lF vs nb (.slice ar L.length cr) L ver w6 (TS0.out.below b6) (HT.out.below b6 (Nat.le_refl _)) szF RO.out szL HM.out hb16 HF.out).mono ?_
      rintro e w7 ⟨rfl, g⟩
      have hz6 : w6.heap.size ≤ w7.heap.size := g.size
      have b7 := chain b6 g
      have g6 := g
      have g7 := Below.refl w7.heap.size w7
      have hga6 : ga < w6.heap.size := Nat.lt_of_lt_of_le (lt_of_block Q3.out) b6.size
      have qd := heap_alloc_new w7 (.cells zT 26)
      clear g
      go_wp2_with ((with_reducible refine wpList_store_row (o := ⟨none, _, _, _, _, _⟩) rfl 26 (.tmp 6) (.tmp 26) rfl _ zT rfl rfl _ zT qd (infoTc zT_size) rfl zT_one ?_); (obtain ⟨W8, hWn⟩ : ∃ W, W = (World.alloc w7 (.cells zT 26)).setRow w7.heap.size zT := ⟨_, rfl⟩); rw [← hWn]; (have gn : Below w7.heap.size w7 W8 := by rw [hWn]; exact below_row ((Below.refl _ _).alloc (Nat.le_refl _) _) (Nat.le_refl _) zT); (have Q6 := Lib.hid (show W8.heap[w7.heap.size]? = some (.cells zT 26 (0, 0)) by rw [hWn]; exact setRow_heap _ _ _ zT _ _ qd)); clear hWn qd; (have b7 := chain b7 gn); (have g6 := chain g6 gn); (have g7 := chain g7 gn); (have h8 := Below.refl W8.heap.size W8); clear gn)
      have B7 := Lib.hid b7
      have G6 := Lib.hid g6
      clear b7 g6 g7 h8 b6
      go_loopw [8] (fun i wr => ∃ (j : Nat), j ≤ L.length ∧ i = .int .i64 (j : Int) ∧ Below WS.heap.size W8 wr ∧ Hid (∀ k, w6.heap.size ≤ k → wr.heap[k]? = W8.heap[k]?) ∧ Hid (∀ gr, ar = some ⟨gr, 0, none⟩ → ∃ C : Array Value, wr.heap[gr]? = some (.cells C 32 (0, 0)) ∧ C.size = cr * 5)) (fun i _ => 200 - (intOf i).toNat)
      case atStart => exact ⟨0, Nat.zero_le _, rfl, Below.refl _ _, Lib.hid (fun _ _ => rfl), Lib.hid (fun gr ha => by
        obtain ⟨-, h2, -, C, h3, h4⟩ := own_row OW6.out ha
        exact ⟨C, (G6.out.block _ h2).trans h3, h4⟩)⟩
      case round =>
        obtain ⟨j, hj, rfl, hB, hK, hR⟩ := hrel
        by_cases hlt : j < L.length
        · obtain ⟨gr, rfl⟩ := own_some OW6.out (by omega)
          obtain ⟨hg1, hg2, hg3, -⟩ := own_row OW6.out rfl
          obtain ⟨C, hC, hCs⟩ := hR.out gr rfl
          have hlti : (j : Int) < (L.length : Int) := by omega
          go_wp2_with (with_reducible refine wpList_store_mid (op := ⟨none, _, _, _, _, _⟩) rfl 32 (.tmp 37) (.tmp 36) rfl gr _ _ rfl rfl (there_of hC (by rw [hCs]; simp; omega)) infoI (by simp [Value.oneCell']) ?_)
          exact ⟨⟨j + 1, by omega, by push_cast; rfl, (sets_keep hg1 hg2 _ _ _ hB hK.out ⟨C, hC, hCs⟩).1, Lib.hid (sets_keep hg1 hg2 _ _ _ hB hK.out ⟨C, hC, hCs⟩).2.1, Lib.hid (fun gr2 e2 => by cases e2; exact (sets_keep hg1 hg2 _ _ _ hB hK.out ⟨C, hC, hCs⟩).2.2)⟩, by simp [intOf]; omega⟩
        · obtain rfl : j = L.length := by omega
          have bW := B7.out.trans hB
          have Q3r := Lib.hid ((bW.block _ (lt_of_block Q3.out)).trans Q3.out)
          have Q6r := Lib.hid ((hK.out _ hz6).trans Q6.out)
          have TR := Lib.hid (TS0.out.below bW)
          have BWr := Lib.hid bW
          clear hK hR hB bW
          have h9 := Below.refl wr.heap.size wr
          have RM0 := fun W (g : Below wr.heap.size wr W) => refTmay_any CF lF vs W (TR.out.below g) ((HT.out.below BWr.out (Nat.le_refl _)).below g (Nat.le_refl _)) szF lenF
          rw [HM.out] at RM0
          have RM := Lib.hid RM0
          have NN := Lib.hid (fun W => none_yes zT W (rdt_zero W))
          have AW := Lib.hid (fun W (g : Below wr.heap.size wr W) => awake10_any W (TR.out.below g))
          clear RM0
          have FT0 := fun W (g : Below wr.heap.size wr W) => refFits_any nb (.slice ai L.length ci) L ver W (TR.out.below g) ((HI.out.below BWr.out (Nat.le_refl _)).below g (Nat.le_refl _)) szL lenL
          rw [HF.out] at FT0
          have FT := Lib.hid FT0
          clear FT0
          have q3 := (h9.block _ (lt_of_block Q3r.out)).trans Q3r.out
          go_wp2_with ((with_reducible refine wpList_load_row (o := ⟨some 38, _, _, _, _, _⟩) rfl 26 (.tmp 3) rfl _ rfl _ CF (0, 0) _ q3 Tryd.underlying26 rfl hsF ?_))
          clear q3
          refine (RM.out _ h9).mono ?_
          rintro e v1 ⟨rfl, g⟩
          have h9 := chain h9 g
          clear g
          have d2 : decide (15 < (nb : Int)) = false := decide_eq_false (by omega)
          have d3 : decide (15 < nb) = false := decide_eq_false (by omega)
          have c32 := C32.out _ (chain BW.out (chain BWr.out h9))
          have c33 := C33.out _ (chain BW.out (chain BWr.out h9))
          go_wp2_with fail
          clear c32 c33
          refine (FT.out _ h9).mono ?_
          rintro e v2 ⟨rfl, g⟩
          have h9 := chain h9 g
          clear g
          have q6 := (h9.block _ (lt_of_block Q6r.out)).trans Q6r.out
          go_wp2_with ((with_reducible refine wpList_load_row (o := ⟨some 74, _, _, _, _, _⟩) rfl 26 (.tmp 6) rfl _ rfl _ zT (0, 0) _ q6 Tryd.underlying26 rfl (infoTc zT_size) ?_))
          clear q6
          refine (NN.out _).mono ?_
          rintro e vn ⟨rfl, g⟩
          have h9 := chain h9 g
          clear g
          go_wp2_with fail
          refine (AW.out _ h9).mono ?_
          rintro e va ⟨rfl, g⟩
          have h9 := chain h9 g
          clear g
          go_wp2_with fail
          go_ret
          exact ⟨rfl, chain BEL.out (chain BW.out (chain BWr.out h9))⟩
    · skip
      go_simp
      have qz : (World.alloc y1 (.cells zT 26)).heap[y1.heap.size]? = some (.cells zT 26 (0, 0)) := heap_alloc_new y1 (.cells zT 26)
      have GA0 : W0.heap.size ≤ y1.heap.size := hS.size
      have GAF : y1.heap.size ≤ y1.heap.size := hF.size
      have g := (Below.refl y1.heap.size y1).alloc (Nat.le_refl _) (.cells zT 26)
      have hS : Below W0.heap.size W0 (World.alloc y1 (.cells zT 26)) := hS.alloc hS.size (.cells zT 26)
      have own := own.below g
      have hF := chain hF g
      refine hK _ _ ⟨hS, ?_⟩
      clear hK K g
      obtain ⟨y2, hy⟩ : ∃ W, W = World.alloc y1 (.cells zT 26) := ⟨_, rfl⟩
      rw [← hy] at qz hS own hF ⊢
      clear hy
      try simp only [Act.put, List.setIfInBounds_toArray, List.set_cons_zero, List.set_cons_succ]
      refine gs_run (i := 5) rfl (by kernel_rfl) (by rfl) (fun K hK => ?_)
      go_simp
      have bI := lt_of_block qz
      refine (IT.out _ hS).mono ?_
      rintro e y3 ⟨vI, rfl, oI, g⟩
      have hS := chain hS g
      have own := own.below g
      have hF := chain hF g
      have qz := (g.block _ (lt_of_block qz)).trans qz
      have hI := Below.refl y3.heap.size y3
      have RI0 := Lib.hid (OwnI.rd (w := y3) oI)
      refine hK _ _ ⟨hS, ?_⟩
      clear hK K g
      try simp only [Act.put, List.setIfInBounds_toArray, List.set_cons_zero, List.set_cons_succ]
      refine gs_run (i := 7) rfl (by kernel_rfl) (by rfl) (fun K hK => ?_)
      have hsF := infoTc own.size
      have hzF : zT.size = CF.size := by rw [own.size]; rfl
      have hoF := own.rd.one
      refine wp_store_row 26 (.tmp 3) (.tmp 11) rfl _ CF rfl rfl _ zT qz hsF hzF hoF ?_
      have qn := setRow_heap _ _ _ CF _ _ qz
      have hS := below_row hS GA0 CF
      have hF := below_row hF GAF CF
      have oI := own_moved2 (w' := World.setRow y3 y1.heap.size CF) oI (fun k hk _ => by rw [setRow_other _ _ _ _ (by omega)])
      refine hK _ _ ⟨hS, ?_⟩
      clear hK K
      obtain ⟨WS, hWS⟩ : ∃ W, W = World.setRow y3 y1.heap.size CF := ⟨_, rfl⟩
      rw [← hWS] at qn hS hF oI ⊢
      clear hWS
      have KT : Hid (∀ W', Below WS.heap.size WS W' → ∀ n m u1 u2, RdT ((W'.setCell ⟨y1.heap.size, n, none⟩ u1).setCell ⟨y1.heap.size, m, none⟩ u2) CF lF vs) := Lib.hid (fun W' g n m u1 u2 => RF.out.below (((chain hF g).setCell (p := ⟨y1.heap.size, n, none⟩) GAF u1).setCell (p := ⟨y1.heap.size, m, none⟩) GAF u2) (Nat.le_refl _))
      have KI : Hid (∀ W', Below WS.heap.size WS W' → ∀ n m u1 u2, RdI ((W'.setCell ⟨y1.heap.size, n, none⟩ u1).setCell ⟨y1.heap.size, m, none⟩ u2) vI L) := Lib.hid (fun W' g n m u1 u2 => own_rdk itC_len (own_moved2 (own_moved2 oI (fun k _ hk => g.block k hk)) (fun k hk _ => by rw [set_old (by omega), set_old (by omega)])))
      have HT := Lib.hid (show RdT WS CF lF vs from RF.out.below hF (Nat.le_refl _))
      have RI := (show RdI WS vI L from own_rdk itC_len oI)
      have Q3 := Lib.hid qn
      clear qz qn hF hI own oI RF RI0 GAF bI
      try simp only [Act.put, List.setIfInBounds_toArray, List.set_cons_zero, List.set_cons_succ]
      refine gs_take (i := 8) (d := (some 4)) (v := ?_) rfl rfl (by kernel_rfl) (fun _ _ _ h => h) (by rfl) hS (fun w' hb' => ?_) ?_
      rotate_left
      · (try go_simp); (try with_reducible rfl)
      try simp only [Act.put, List.setIfInBounds_toArray, List.set_cons_zero, List.set_cons_succ]
      refine gs_done (by kernel_rfl) ?_
      have GAW : w.heap.size < y1.heap.size := by have := lt_of_block Q1.out; omega
      obtain ⟨ga, hga⟩ : ∃ ga, ga = y1.heap.size := ⟨_, rfl⟩
      rw [← hga] at GAW Q3 KT KI ⊢
      clear hga GA0
      have hsF := infoTc HT.out.size
      have hoF := HT.out.one
      have TS0 := Lib.hid (TAB.out.below (chain BEL.out hS))
      obtain ⟨ai, ci, rfl, hc1, hc2, RI1⟩ := RdK.open RI
      have HI := Lib.hid (show RdI WS (.slice ai L.length ci) L from RI1)
      clear RI RI1
      have BW := Lib.hid hS
      have LIT := Lib.hid (World.ownsRow_lit (e := 32) (size := 5) WS #[] 0 (Nat.le_refl _) (by decide) rfl)
      have BL := (Below.refl WS.heap.size WS).alloc (Nat.le_refl _) (.cells #[] 32)
      go_wp2_with (first
        | (at_builtin; refine wpList_app_rdk itC_len (by decide) WS rfl (.tmp 15) (.tmp 16) 22 rfl WS.heap.size 32 i0 (.agg #[.string ⟨#[]⟩, .int .i64 0, .int .i64 0, .string ⟨#[]⟩, .int .i64 0]) 56 Tryd.underlying22 hi hz0 hz1 hz2 rfl (.slice (some ⟨WS.heap.size, 0, none⟩) 0 0) [] rfl LIT.out (.slice ai L.length ci) L rfl (HI.out.below BL (Nat.le_refl _)) itC_one (by unfold maxLen; simp; omega) (by simp; omega) (Nat.le_refl _) BL ?_; intro vr w6 hown6 b6 hq6; clear hq6; rw [List.nil_append] at hown6; (obtain ⟨ar, cr, rfl, kr1, kr2, RO1⟩ := RdK.open (own_rdk itC_len hown6)); have RO := Lib.hid (show RdI w6 (.slice ar L.length cr) L from RO1); have OW6 := Lib.hid hown6; clear hown6 RO1; have q3 := (b6.block _ (lt_of_block Q3.out)).trans Q3.out; have c32 := C32.out _ (chain BW.out b6); have c33 := C33.out _ (chain BW.out b6))
        | ((with_reducible refine wpList_load_row (o := ⟨some 19, _, _, _, _, _⟩) rfl 26 (.tmp 3) rfl _ rfl _ CF (0, 0) _ q3 Tryd.underlying26 rfl hsF ?_)))
      clear q3 c32 c33
      refine (repl_no CF lF vs nb (.slice ar L.length cr) L ver w6 (TS0.out.below b6) (HT.out.below b6 (Nat.le_refl _)) szF RO.out szL HM.out hb16 HF.out).mono ?_
      rintro e w7 ⟨rfl, g⟩
      have hz6 : w6.heap.size ≤ w7.heap.size := g.size
      have b7 := chain b6 g
      have g6 := g
      have g7 := Below.refl w7.heap.size w7
      have hga6 : ga < w6.heap.size := Nat.lt_of_lt_of_le (lt_of_block Q3.out) b6.size
      have qd := heap_alloc_new w7 (.cells zT 26)
      clear g
      go_wp2_with ((with_reducible refine wpList_store_row (o := ⟨none, _, _, _, _, _⟩) rfl 26 (.tmp 6) (.tmp 26) rfl _ zT rfl rfl _ zT qd (infoTc zT_size) rfl zT_one ?_); (obtain ⟨W8, hWn⟩ : ∃ W, W = (World.alloc w7 (.cells zT 26)).setRow w7.heap.size zT := ⟨_, rfl⟩); rw [← hWn]; (have gn : Below w7.heap.size w7 W8 := by rw [hWn]; exact below_row ((Below.refl _ _).alloc (Nat.le_refl _) _) (Nat.le_refl _) zT); (have Q6 := Lib.hid (show W8.heap[w7.heap.size]? = some (.cells zT 26 (0, 0)) by rw [hWn]; exact setRow_heap _ _ _ zT _ _ qd)); clear hWn qd; (have b7 := chain b7 gn); (have g6 := chain g6 gn); (have g7 := chain g7 gn); (have h8 := Below.refl W8.heap.size W8); clear gn)
      have B7 := Lib.hid b7
      have G6 := Lib.hid g6
      clear b7 g6 g7 h8 b6
      go_loopw [8] (fun i wr => ∃ (j : Nat), j ≤ L.length ∧ i = .int .i64 (j : Int) ∧ Below WS.heap.size W8 wr ∧ Hid (∀ k, w6.heap.size ≤ k → wr.heap[k]? = W8.heap[k]?) ∧ Hid (∀ gr, ar = some ⟨gr, 0, none⟩ → ∃ C : Array Value, wr.heap[gr]? = some (.cells C 32 (0, 0)) ∧ C.size = cr * 5)) (fun i _ => 200 - (intOf i).toNat)
      case atStart => exact ⟨0, Nat.zero_le _, rfl, Below.refl _ _, Lib.hid (fun _ _ => rfl), Lib.hid (fun gr ha => by
        obtain ⟨-, h2, -, C, h3, h4⟩ := own_row OW6.out ha
        exact ⟨C, (G6.out.block _ h2).trans h3, h4⟩)⟩
      case round =>
        obtain ⟨j, hj, rfl, hB, hK, hR⟩ := hrel
        by_cases hlt : j < L.length
        · obtain ⟨gr, rfl⟩ := own_some OW6.out (by omega)
          obtain ⟨hg1, hg2, hg3, -⟩ := own_row OW6.out rfl
          obtain ⟨C, hC, hCs⟩ := hR.out gr rfl
          have hlti : (j : Int) < (L.length : Int) := by omega
          go_wp2_with (with_reducible refine wpList_store_mid (op := ⟨none, _, _, _, _, _⟩) rfl 32 (.tmp 37) (.tmp 36) rfl gr _ _ rfl rfl (there_of hC (by rw [hCs]; simp; omega)) infoI (by simp [Value.oneCell']) ?_)
          exact ⟨⟨j + 1, by omega, by push_cast; rfl, (sets_keep hg1 hg2 _ _ _ hB hK.out ⟨C, hC, hCs⟩).1, Lib.hid (sets_keep hg1 hg2 _ _ _ hB hK.out ⟨C, hC, hCs⟩).2.1, Lib.hid (fun gr2 e2 => by cases e2; exact (sets_keep hg1 hg2 _ _ _ hB hK.out ⟨C, hC, hCs⟩).2.2)⟩, by simp [intOf]; omega⟩
        · obtain rfl : j = L.length := by omega
          have bW := B7.out.trans hB
          have Q3r := Lib.hid ((bW.block _ (lt_of_block Q3.out)).trans Q3.out)
          have Q6r := Lib.hid ((hK.out _ hz6).trans Q6.out)
          have TR := Lib.hid (TS0.out.below bW)
          have BWr := Lib.hid bW
          clear hK hR hB bW
          have h9 := Below.refl wr.heap.size wr
          have RM0 := fun W (g : Below wr.heap.size wr W) => refTmay_any CF lF vs W (TR.out.below g) ((HT.out.below BWr.out (Nat.le_refl _)).below g (Nat.le_refl _)) szF lenF
          rw [HM.out] at RM0
          have RM := Lib.hid RM0
          have NN := Lib.hid (fun W => none_yes zT W (rdt_zero W))
          have AW := Lib.hid (fun W (g : Below wr.heap.size wr W) => awake10_any W (TR.out.below g))
          clear RM0
          have FT0 := fun W (g : Below wr.heap.size wr W) => refFits_any nb (.slice ai L.length ci) L ver W (TR.out.below g) ((HI.out.below BWr.out (Nat.le_refl _)).below g (Nat.le_refl _)) szL lenL
          rw [HF.out] at FT0
          have FT := Lib.hid FT0
          clear FT0
          have q3 := (h9.block _ (lt_of_block Q3r.out)).trans Q3r.out
          go_wp2_with ((with_reducible refine wpList_load_row (o := ⟨some 38, _, _, _, _, _⟩) rfl 26 (.tmp 3) rfl _ rfl _ CF (0, 0) _ q3 Tryd.underlying26 rfl hsF ?_))
          clear q3
          refine (RM.out _ h9).mono ?_
          rintro e v1 ⟨rfl, g⟩
          have h9 := chain h9 g
          clear g
          have d2 : decide (15 < (nb : Int)) = false := decide_eq_false (by omega)
          have d3 : decide (15 < nb) = false := decide_eq_false (by omega)
          have c32 := C32.out _ (chain BW.out (chain BWr.out h9))
          have c33 := C33.out _ (chain BW.out (chain BWr.out h9))
          go_wp2_with fail
          clear c32 c33
          refine (FT.out _ h9).mono ?_
          rintro e v2 ⟨rfl, g⟩
          have h9 := chain h9 g
          clear g
          have q6 := (h9.block _ (lt_of_block Q6r.out)).trans Q6r.out
          go_wp2_with ((with_reducible refine wpList_load_row (o := ⟨some 74, _, _, _, _, _⟩) rfl 26 (.tmp 6) rfl _ rfl _ zT (0, 0) _ q6 Tryd.underlying26 rfl (infoTc zT_size) ?_))
          clear q6
          refine (NN.out _).mono ?_
          rintro e vn ⟨rfl, g⟩
          have h9 := chain h9 g
          clear g
          go_wp2_with fail
          refine (AW.out _ h9).mono ?_
          rintro e va ⟨rfl, g⟩
          have h9 := chain h9 g
          clear g
          go_wp2_with fail
          go_ret
          exact ⟨rfl, chain BEL.out (chain BW.out (chain BWr.out h9))⟩
  · skip
    go_simp
    have qz : ((World.alloc W0 (.cells zT 26)).drew).heap[W0.heap.size]? = some (.cells zT 26 (0, 0)) := heap_alloc_new W0 (.cells zT 26)
    have GA0 : W0.heap.size ≤ W0.heap.size := hS.size
    have g := (Below.refl W0.drew.heap.size W0.drew).alloc (Nat.le_refl _) (.cells zT 26)
    have hS : Below W0.heap.size W0 ((World.alloc W0 (.cells zT 26)).drew) := Below.drew ((Below.refl W0.heap.size W0).alloc (Nat.le_refl _) _)
    refine hK _ _ ⟨hS, ?_⟩
    clear hK K g
    obtain ⟨y1, hy⟩ : ∃ W, W = (World.alloc W0 (.cells zT 26)).drew := ⟨_, rfl⟩
    rw [← hy] at qz hS ⊢
    clear hy
    try simp only [Act.put, List.setIfInBounds_toArray, List.set_cons_zero, List.set_cons_succ]
    refine gs_run (i := 2) rfl (by kernel_rfl) (by rfl) (fun K hK => ?_)
    go_simp
    have bF := lt_of_block qz
    refine (FW.out _ hS).mono ?_
    rintro e y2 ⟨CF, rfl, own, g⟩
    have hS := chain hS g
    have qz := (g.block _ (lt_of_block qz)).trans qz
    have hF := Below.refl y2.heap.size y2
    have RF := Lib.hid own.rd
    refine hK _ _ ⟨hS, ?_⟩
    clear hK K g
    try simp only [Act.put, List.setIfInBounds_toArray, List.set_cons_zero, List.set_cons_succ]
    refine gs_run (i := 5) rfl (by kernel_rfl) (by rfl) (fun K hK => ?_)
    go_simp
    have bI := lt_of_block qz
    refine (IT.out _ hS).mono ?_
    rintro e y3 ⟨vI, rfl, oI, g⟩
    have hS := chain hS g
    have own := own.below g
    have hF := chain hF g
    have qz := (g.block _ (lt_of_block qz)).trans qz
    have hI := Below.refl y3.heap.size y3
    have RI0 := Lib.hid (OwnI.rd (w := y3) oI)
    refine hK _ _ ⟨hS, ?_⟩
    clear hK K g
    try simp only [Act.put, List.setIfInBounds_toArray, List.set_cons_zero, List.set_cons_succ]
    refine gs_run (i := 7) rfl (by kernel_rfl) (by rfl) (fun K hK => ?_)
    have hsF := infoTc own.size
    have hzF : zT.size = CF.size := by rw [own.size]; rfl
    have hoF := own.rd.one
    refine wp_store_row 26 (.tmp 3) (.tmp 11) rfl _ CF rfl rfl _ zT qz hsF hzF hoF ?_
    have qn := setRow_heap _ _ _ CF _ _ qz
    have hS := below_row hS GA0 CF
    have own := own.moved (w' := World.setRow y3 W0.heap.size CF) (fun k hk _ => by rw [setRow_other _ _ _ _ (by omega)])
    have oI := own_moved2 (w' := World.setRow y3 W0.heap.size CF) oI (fun k hk _ => by rw [setRow_other _ _ _ _ (by omega)])
    refine hK _ _ ⟨hS, ?_⟩
    clear hK K
    obtain ⟨WS, hWS⟩ : ∃ W, W = World.setRow y3 W0.heap.size CF := ⟨_, rfl⟩
    rw [← hWS] at qn hS own oI ⊢
    clear hWS
    have KT : Hid (∀ W', Below WS.heap.size WS W' → ∀ n m u1 u2, RdT ((W'.setCell ⟨W0.heap.size, n, none⟩ u1).setCell ⟨W0.heap.size, m, none⟩ u2) CF lF vs) := Lib.hid (fun W' g n m u1 u2 => ((own.below g).moved (fun k hk _ => by rw [set_old (by omega), set_old (by omega)])).rd)
    have KI : Hid (∀ W', Below WS.heap.size WS W' → ∀ n m u1 u2, RdI ((W'.setCell ⟨W0.heap.size, n, none⟩ u1).setCell ⟨W0.heap.size, m, none⟩ u2) vI L) := Lib.hid (fun W' g n m u1 u2 => own_rdk itC_len (own_moved2 (own_moved2 oI (fun k _ hk => g.block k hk)) (fun k hk _ => by rw [set_old (by omega), set_old (by omega)])))
    have HT := Lib.hid (show RdT WS CF lF vs from own.rd)
    have RI := (show RdI WS vI L from own_rdk itC_len oI)
    have Q3 := Lib.hid qn
    clear qz qn hF hI own oI RF RI0 bF bI
    try simp only [Act.put, List.setIfInBounds_toArray, List.set_cons_zero, List.set_cons_succ]
    refine gs_take (i := 8) (d := (some 4)) (v := ?_) rfl rfl (by kernel_rfl) (fun _ _ _ h => h) (by rfl) hS (fun w' hb' => ?_) ?_
    rotate_left
    · (try go_simp); (try with_reducible rfl)
    try simp only [Act.put, List.setIfInBounds_toArray, List.set_cons_zero, List.set_cons_succ]
    refine gs_done (by kernel_rfl) ?_
    have GAW : w.heap.size < W0.heap.size := by have := lt_of_block Q1.out; omega
    obtain ⟨ga, hga⟩ : ∃ ga, ga = W0.heap.size := ⟨_, rfl⟩
    rw [← hga] at GAW Q3 KT KI ⊢
    clear hga GA0
    have hsF := infoTc HT.out.size
    have hoF := HT.out.one
    have TS0 := Lib.hid (TAB.out.below (chain BEL.out hS))
    obtain ⟨ai, ci, rfl, hc1, hc2, RI1⟩ := RdK.open RI
    have HI := Lib.hid (show RdI WS (.slice ai L.length ci) L from RI1)
    clear RI RI1
    have BW := Lib.hid hS
    have LIT := Lib.hid (World.ownsRow_lit (e := 32) (size := 5) WS #[] 0 (Nat.le_refl _) (by decide) rfl)
    have BL := (Below.refl WS.heap.size WS).alloc (Nat.le_refl _) (.cells #[] 32)
    go_wp2_with (first
      | (at_builtin; refine wpList_app_rdk itC_len (by decide) WS rfl (.tmp 15) (.tmp 16) 22 rfl WS.heap.size 32 i0 (.agg #[.string ⟨#[]⟩, .int .i64 0, .int .i64 0, .string ⟨#[]⟩, .int .i64 0]) 56 Tryd.underlying22 hi hz0 hz1 hz2 rfl (.slice (some ⟨WS.heap.size, 0, none⟩) 0 0) [] rfl LIT.out (.slice ai L.length ci) L rfl (HI.out.below BL (Nat.le_refl _)) itC_one (by unfold maxLen; simp; omega) (by simp; omega) (Nat.le_refl _) BL ?_; intro vr w6 hown6 b6 hq6; clear hq6; rw [List.nil_append] at hown6; (obtain ⟨ar, cr, rfl, kr1, kr2, RO1⟩ := RdK.open (own_rdk itC_len hown6)); have RO := Lib.hid (show RdI w6 (.slice ar L.length cr) L from RO1); have OW6 := Lib.hid hown6; clear hown6 RO1; have q3 := (b6.block _ (lt_of_block Q3.out)).trans Q3.out; have c32 := C32.out _ (chain BW.out b6); have c33 := C33.out _ (chain BW.out b6))
      | ((with_reducible refine wpList_load_row (o := ⟨some 19, _, _, _, _, _⟩) rfl 26 (.tmp 3) rfl _ rfl _ CF (0, 0) _ q3 Tryd.underlying26 rfl hsF ?_)))
    clear q3 c32 c33
    refine (repl_no CF lF vs nb (.slice ar L.length cr) L ver w6 (TS0.out.below b6) (HT.out.below b6 (Nat.le_refl _)) szF RO.out szL HM.out hb16 HF.out).mono ?_
    rintro e w7 ⟨rfl, g⟩
    have hz6 : w6.heap.size ≤ w7.heap.size := g.size
    have b7 := chain b6 g
    have g6 := g
    have g7 := Below.refl w7.heap.size w7
    have hga6 : ga < w6.heap.size := Nat.lt_of_lt_of_le (lt_of_block Q3.out) b6.size
    have qd := heap_alloc_new w7 (.cells zT 26)
    clear g
    go_wp2_with ((with_reducible refine wpList_store_row (o := ⟨none, _, _, _, _, _⟩) rfl 26 (.tmp 6) (.tmp 26) rfl _ zT rfl rfl _ zT qd (infoTc zT_size) rfl zT_one ?_); (obtain ⟨W8, hWn⟩ : ∃ W, W = (World.alloc w7 (.cells zT 26)).setRow w7.heap.size zT := ⟨_, rfl⟩); rw [← hWn]; (have gn : Below w7.heap.size w7 W8 := by rw [hWn]; exact below_row ((Below.refl _ _).alloc (Nat.le_refl _) _) (Nat.le_refl _) zT); (have Q6 := Lib.hid (show W8.heap[w7.heap.size]? = some (.cells zT 26 (0, 0)) by rw [hWn]; exact setRow_heap _ _ _ zT _ _ qd)); clear hWn qd; (have b7 := chain b7 gn); (have g6 := chain g6 gn); (have g7 := chain g7 gn); (have h8 := Below.refl W8.heap.size W8); clear gn)
    have B7 := Lib.hid b7
    have G6 := Lib.hid g6
    clear b7 g6 g7 h8 b6
    go_loopw [8] (fun i wr => ∃ (j : Nat), j ≤ L.length ∧ i = .int .i64 (j : Int) ∧ Below WS.heap.size W8 wr ∧ Hid (∀ k, w6.heap.size ≤ k → wr.heap[k]? = W8.heap[k]?) ∧ Hid (∀ gr, ar = some ⟨gr, 0, none⟩ → ∃ C : Array Value, wr.heap[gr]? = some (.cells C 32 (0, 0)) ∧ C.size = cr * 5)) (fun i _ => 200 - (intOf i).toNat)
    case atStart => exact ⟨0, Nat.zero_le _, rfl, Below.refl _ _, Lib.hid (fun _ _ => rfl), Lib.hid (fun gr ha => by
      obtain ⟨-, h2, -, C, h3, h4⟩ := own_row OW6.out ha
      exact ⟨C, (G6.out.block _ h2).trans h3, h4⟩)⟩
    case round =>
      obtain ⟨j, hj, rfl, hB, hK, hR⟩ := hrel
      by_cases hlt : j < L.length
      · obtain ⟨gr, rfl⟩ := own_some OW6.out (by omega)
        obtain ⟨hg1, hg2, hg3, -⟩ := own_row OW6.out rfl
        obtain ⟨C, hC, hCs⟩ := hR.out gr rfl
        have hlti : (j : Int) < (L.length : Int) := by omega
        go_wp2_with (with_reducible refine wpList_store_mid (op := ⟨none, _, _, _, _, _⟩) rfl 32 (.tmp 37) (.tmp 36) rfl gr _ _ rfl rfl (there_of hC (by rw [hCs]; simp; omega)) infoI (by simp [Value.oneCell']) ?_)
        exact ⟨⟨j + 1, by omega, by push_cast; rfl, (sets_keep hg1 hg2 _ _ _ hB hK.out ⟨C, hC, hCs⟩).1, Lib.hid (sets_keep hg1 hg2 _ _ _ hB hK.out ⟨C, hC, hCs⟩).2.1, Lib.hid (fun gr2 e2 => by cases e2; exact (sets_keep hg1 hg2 _ _ _ hB hK.out ⟨C, hC, hCs⟩).2.2)⟩, by simp [intOf]; omega⟩
      · obtain rfl : j = L.length := by omega
        have bW := B7.out.trans hB
        have Q3r := Lib.hid ((bW.block _ (lt_of_block Q3.out)).trans Q3.out)
        have Q6r := Lib.hid ((hK.out _ hz6).trans Q6.out)
        have TR := Lib.hid (TS0.out.below bW)
        have BWr := Lib.hid bW
        clear hK hR hB bW
        have h9 := Below.refl wr.heap.size wr
        have RM0 := fun W (g : Below wr.heap.size wr W) => refTmay_any CF lF vs W (TR.out.below g) ((HT.out.below BWr.out (Nat.le_refl _)).below g (Nat.le_refl _)) szF lenF
        rw [HM.out] at RM0
        have RM := Lib.hid RM0
        have NN := Lib.hid (fun W => none_yes zT W (rdt_zero W))
        have AW := Lib.hid (fun W (g : Below wr.heap.size wr W) => awake10_any W (TR.out.below g))
        clear RM0
        have FT0 := fun W (g : Below wr.heap.size wr W) => refFits_any nb (.slice ai L.length ci) L ver W (TR.out.below g) ((HI.out.below BWr.out (Nat.le_refl _)).below g (Nat.le_refl _)) szL lenL
        rw [HF.out] at FT0
        have FT := Lib.hid FT0
        clear FT0
        have q3 := (h9.block _ (lt_of_block Q3r.out)).trans Q3r.out
        go_wp2_with ((with_reducible refine wpList_load_row (o := ⟨some 38, _, _, _, _, _⟩) rfl 26 (.tmp 3) rfl _ rfl _ CF (0, 0) _ q3 Tryd.underlying26 rfl hsF ?_))
        clear q3
        refine (RM.out _ h9).mono ?_
        rintro e v1 ⟨rfl, g⟩
        have h9 := chain h9 g
        clear g
        have d2 : decide (15 < (nb : Int)) = false := decide_eq_false (by omega)
        have d3 : decide (15 < nb) = false := decide_eq_false (by omega)
        have c32 := C32.out _ (chain BW.out (chain BWr.out h9))
        have c33 := C33.out _ (chain BW.out (chain BWr.out h9))
        go_wp2_with fail
        clear c32 c33
        refine (FT.out _ h9).mono ?_
        rintro e v2 ⟨rfl, g⟩
        have h9 := chain h9 g
        clear g
        have q6 := (h9.block _ (lt_of_block Q6r.out)).trans Q6r.out
        go_wp2_with ((with_reducible refine wpList_load_row (o := ⟨some 74, _, _, _, _, _⟩) rfl 26 (.tmp 6) rfl _ rfl _ zT (0, 0) _ q6 Tryd.underlying26 rfl (infoTc zT_size) ?_))
        clear q6
        refine (NN.out _).mono ?_
        rintro e vn ⟨rfl, g⟩
        have h9 := chain h9 g
        clear g
        go_wp2_with fail
        refine (AW.out _ h9).mono ?_
        rintro e va ⟨rfl, g⟩
        have h9 := chain h9 g
        clear g
        go_wp2_with fail
        go_ret
        exact ⟨rfl, chain BEL.out (chain BW.out (chain BWr.out h9))⟩
end Go.Proofs.YtmjedjhkhjiigaaDoor
