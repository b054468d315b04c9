/- Stores: awake. Written by wip/tools/gen13ax.py. -/
import Derived.Test.YtbdfcgffkonbiaaDoorQST43
namespace Go.Proofs.YtbdfcgffkonbiaaDoor
open Go Go.RowKit
set_option linter.unusedVariables false
set_option linter.unusedSimpArgs false
theorem alloc_at {n : Nat} {W0 W : World} (h : Below n W0 W) (o : Obj) : (W.alloc o).heap[W.heap.size]? = some o := heap_alloc_new W o
theorem region_puts_of {ι : Type} {P : Program} {c : Code} {Q : Exit → Act → World → Prop} {a : Act} {w : World} (ds : ι → List (Option Tmp × Value)) (M : ι → World → Prop) (h : c.wp P (fun e x y => e = .normal ∧ ∃ i, x = (ds i).foldl (fun a d => a.put d.1 d.2) a ∧ M i y) a w)
    (k : ∀ i y, M i y → Q .normal ((ds i).foldl (fun a d => a.put d.1 d.2) a) y) : c.wp P Q a w :=
  Code.wp_mono (by rintro e x y ⟨rfl, i, rfl, hm⟩; exact k i y hm) h
/-- What taking edits hands back, when the block B of the result's variable may have been laid before the call. -/
def TakeR (n : Nat) (W1 : World) (c i : Int) (t : St) (e : Ending) (w1 : World) : Prop :=
  ∃ C, e = .returned (.tuple #[.agg C, .int .i64 c, .int .i64 i]) ∧ C.size = 35 ∧ C.all (·.oneCell') = true ∧ Hid (∀ B, n ≤ B → (B < W1.heap.size ∨ w1.heap.size ≤ B) → ∀ W, (∀ k, k < w1.heap.size → k ≠ B → W.heap[k]? = w1.heap[k]?) → RdS W C t) ∧ Below W1.heap.size W1 w1
theorem take_rd {W0 W1 : World} {cs : Array Value} {s t : St} {l : List Ed} {v : Value} {c i : Nat} (h : RdS W0 cs s) (g : Below W0.heap.size W0 W1) (tab : TabAt W1) (hsz : SzT s.lv) (hwf : WfT s.lv) (h100 : ∀ b, b < 16 → (s.lv b).length ≤ 100) (hl : RdE W1 v l) (hse : SzE l) (hwe : WfE l) (hE : takeE s l = ((c, i), t)) :
    Calls Tryd.prog 34 #[.agg cs, v] W1 (TakeR W0.heap.size W1 c i t) := by
  refine (take13_any cs s v l W1 tab (h.below g (Nat.le_refl _)) hsz hwf h100 hl hse hwe).mono ?_
  rintro e w' ⟨C, rfl, HS, b⟩
  rw [hE] at HS ⊢
  have h0 : RdS w' C t := (HS.out (fun _ => False) (fun _ h => h.elim) (noP_rd (h.below g (Nat.le_refl _)).tr)).rd
  refine ⟨C, rfl, h0.size, Array.all_eq_true_iff_forall_mem.2 fun u hu => h0.one u (by simpa using hu), Lib.hid fun B hB hc W hW => ?_, b⟩
  have h1 := HS.out (fun k => k = B ∧ k < W1.heap.size) (fun _ h => h.2) ((h.tr.safe fun k hk => by rw [hk.1]; exact hB).below g)
  exact ⟨h1.size, h1.tr W fun k hk hn => hW k hk (fun e => hn ⟨e, by rcases hc with hc | hc <;> omega⟩), h1.ver, h1.by_, h1.ke⟩
theorem sz_ed {l : List Ed} (h : l.all (fun x => decide (x.key.length ≤ maxLen) && decide (x.v.s.length ≤ maxLen)) = true) : SzE l := fun x hx => by have := List.all_eq_true.1 h x hx; simpa using this
theorem szD1 : SzE ed1 := sz_ed (by decide)
theorem szD2 : SzE ed2 := sz_ed (by decide)
theorem szD3 : SzE ed3 := sz_ed (by decide)
theorem wfD1 : WfE ed1 := fun x hx => by rcases List.mem_cons.1 hx with rfl | hx; · exact wf_wv 1 (by simp [I64])
                                         rcases List.mem_cons.1 hx with rfl | hx; · exact wf_wv 2 (by simp [I64])
                                         cases hx
theorem wfD2 : WfE ed2 := fun x hx => by rcases List.mem_cons.1 hx with rfl | hx; · exact wf_wv 3 (by simp [I64])
                                         cases hx
theorem wfD3 : WfE ed3 := fun x hx => by rcases List.mem_cons.1 hx with rfl | hx; · exact ⟨by simp [eV0], by simp [eV0, I64]⟩
                                         rcases List.mem_cons.1 hx with rfl | hx; · exact wf_wv 3 (by simp [I64])
                                         cases hx
theorem get3 (C : Array Value) (W : World) (tab : TabAt W) (h : RdS W C wsA) : Calls Tryd.prog 25 #[.agg C, .string (ByteArray.mk #[97])] W fun e w' => e = .returned (.tuple #[.agg #[.int .i64 2, .int .i64 1, .string (str [])], .int .i64 1, .int .i64 0]) ∧ Below W.heap.size W w' := by
  have := get13_any C wsA [97] W tab h szA wfA (WfS_len mayA) (by decide)
  unfold GetZ at this
  rw [gtA.1, gtA.2] at this
  exact this
theorem room3 (C : Array Value) (W : World) (tab : TabAt W) (h : RdS W C wsA) : Calls Tryd.prog 17 #[.agg C] W fun e w' => e = .returned (.tuple #[.int .i64 4, .int .i64 0]) ∧ Below W.heap.size W w' := by
  have := room13_any C wsA W tab h szA wfA (WfS_len mayA)
  unfold RoomZ at this
  rw [if_pos mayA, if_pos mayA, show sumT weightL wsA.lv wsA.vs = 6 from wtA, show sumT List.length wsA.lv wsA.vs = 2 from lnA] at this
  exact this
theorem und3 (C D : Array Value) (W : World) (tab : TabAt W) (h : RdS W C wsA) (h2 : RdS W D wsB) : Calls Tryd.prog 36 #[.agg C, .agg D] W fun e w' => ∃ b o cap, e = .returned (.tuple #[.slice (some ⟨b, o, none⟩) 2 cap, .int .i64 0]) ∧ b < w'.heap.size ∧
    w'.cell? ⟨b, o, none⟩ = some (.string (ByteArray.mk #[97])) ∧ w'.cell? ⟨b, o + 1, none⟩ = some (.int .i64 2) ∧ w'.cell? ⟨b, o + 2, none⟩ = some (.int .i64 1) ∧ w'.cell? ⟨b, o + 3, none⟩ = some (.string (str [])) ∧
    w'.cell? ⟨b, o + 4, none⟩ = some (.string (ByteArray.mk #[99])) ∧ w'.cell? ⟨b, o + 5, none⟩ = some (.int .i64 0) ∧ w'.cell? ⟨b, o + 6, none⟩ = some (.int .i64 0) ∧ w'.cell? ⟨b, o + 7, none⟩ = some (.string (ByteArray.mk #[])) ∧ Below W.heap.size W w' := by
  refine (undo13_any C D wsA wsB W tab h h2 szA szB wfA wfB (WfS_len mayA) (WfS_len mayB9)).mono ?_
  rintro e w' ⟨v, rfl, own, g⟩
  rw [ud4] at own
  rw [ud4E]
  obtain ⟨ao, cap, rfl, -, -, R⟩ := RdK.open (own_rdk edC_len own)
  obtain ⟨b, o, rfl, hb, c⟩ := RdK.cell edC_len R 0 (by decide)
  obtain ⟨b2, o2, e2, -, d⟩ := RdK.cell edC_len R 1 (by decide)
  cases e2
  exact ⟨b, o, cap, rfl, hb, c 0 (by decide), c 1 (by decide), c 2 (by decide), c 3 (by decide), d 0 (by decide), d 1 (by decide), d 2 (by decide), d 3 (by decide), g⟩
set_option maxRecDepth 100000 in
set_option maxHeartbeats 4000000 in
theorem awake13_any (w : World) (tab : TabAt w) : Calls Tryd.prog 21 #[] w fun e w' => e = .returned (.bool true) ∧ Below w.heap.size w w' := by
  have z0 := zeroS_run
  have z1 := zS_ne
  have TAB := Lib.hid tab
  have I1 := Lib.hid (fun w => V7.refInt_any 1 w)
  have I2 := Lib.hid (fun w => V7.refInt_any 2 w)
  have I3 := Lib.hid (fun w => V7.refInt_any 3 w)
  have NW0 := new13_any 10 2 w tab
  unfold NewZ at NW0
  rw [if_pos nwA, if_pos nwA] at NW0
  have NW := Lib.hid NW0
  have sN := zSN_size 10 2
  have oN := zSN_one w 10 2
  clear tab NW0
  go_enter Tryd.func21, Tryd.ntmps21
  go_wp2_with fail
  refine NW.out.mono ?_
  rintro e w1 ⟨rfl, g1⟩
  have q0 := heap_alloc_new w1 (.cells zS 28)
  have b0 := (Below.refl w1.heap.size w1).alloc (Nat.le_refl _) (.cells zS 28)
  go_wp2_with ((with_reducible refine wpList_store_row (o := ⟨none, _, _, _, _, _⟩) rfl 28 (.tmp 1) (.tmp 21) rfl _ (zSN 10 2) rfl rfl _ zS q0 (infoS sN) rfl oN ?_); (obtain ⟨WS, hWS⟩ : ∃ X, X = World.setRow (w1.alloc (.cells zS 28)) w1.heap.size (zSN 10 2) := ⟨_, rfl⟩); rw [← hWS]; (have q1 : WS.heap[w1.heap.size]? = some (.cells (zSN 10 2) 28 (0, 0)) := by rw [hWS]; exact setRow_heap _ _ _ _ _ _ q0); (have bS : Below w1.heap.size w1 WS := by rw [hWS]; exact below_row b0 (Nat.le_refl _) _); clear hWS)
  have BS := Lib.hid (chain g1 bS)
  have RN := Lib.hid (rds_new WS 10 2)
  have TK := Lib.hid (fun (v : Value) (W : World) (g : Below WS.heap.size WS W) (h : RdE W v ed1) => (show Calls Tryd.prog 34 #[.agg (zSN 10 2), v] W (TakeR WS.heap.size W 0 0 wsA) from take_rd RN.out g (TAB.out.below (chain BS.out g)) szE wfE (fun _ _ => by simp [stN]) h szD1 wfD1 tk1))
  clear q0 b0 bS g1 NW
  obtain ⟨N1, hN1⟩ : ∃ n, n = w1.heap.size := ⟨_, rfl⟩
  rw [← hN1] at q1 ⊢
  clear hN1
  refine region_puts_of (fun j : Nat × Array Value × Nat => [(some 24, .agg (zSN 10 2)), (some 25, .agg #[.int .i64 2, .int .i64 1, .string (str [])]), (some 27, .agg #[.int .i64 2, .int .i64 2, .string (str [])]), (some 26, .agg #[.string (ByteArray.mk #[97]), .int .i64 2, .int .i64 1, .string (str [])]), (some 28, .agg #[.string (ByteArray.mk #[98]), .int .i64 2, .int .i64 2, .string (str [])]), (some 29, .slice (some ⟨j.2.2, 0, none⟩) 2 2), (some 30, .tuple #[.agg j.2.1, .int .i64 0, .int .i64 0]), (some 23, .tuple #[.agg j.2.1, .int .i64 0, .int .i64 0]), (some 31, .agg j.2.1), (some 32, .int .i64 0), (some 33, .int .i64 0), (some 3, .pointer (some ⟨j.1, 0, none⟩)), (some 4, .int .i64 0), (some 5, .int .i64 0)]) (fun j y => y.heap[j.1]? = some (.cells j.2.1 28 (0, 0)) ∧ j.2.1.size = 35 ∧ Hid (RdS y j.2.1 wsA) ∧ Below WS.heap.size WS y) ?_ ?_
  · have hS : Below WS.heap.size WS WS.drew := (Below.refl _ _).drew
    refine gs_start (S := (fun W => Below WS.heap.size WS W)) (by kernel_rfl) ?_
    obtain ⟨W0, hW0⟩ : ∃ X, X = WS.drew := ⟨_, rfl⟩
    rw [← hW0] at hS ⊢
    clear hW0
    refine gs_take (i := 0) (d := (some 24)) (v := ?_) rfl rfl (by kernel_rfl) (fun _ _ _ h => nomatch h.1) (by rfl) hS (fun w' hb' => ?_) ?_
    rotate_left
    · (refine load_row_op _ _ (.tmp 1) ?_ ?_ ((hb'.block _ (lt_of_block q1)).trans q1) Tryd.underlying28 ?_ (infoS sN) <;> rfl); (try go_simp); (try with_reducible rfl)
    try simp only [Act.put, List.setIfInBounds_toArray, List.set_cons_zero, List.set_cons_succ]
    refine gs_run2 (i := 1) (k := 11) rfl rfl (by kernel_rfl) (by rfl) (by rfl) (fun K hK => ?_) (fun K hK => ?_)
    · skip
      go_simp
      refine (I1.out _).mono ?_
      rintro e w25 ⟨rfl, g⟩
      have hS2 := hS.trans (g.mono hS.size)
      refine hK _ _ ⟨hS2, ?_⟩
      clear hK K g hS
      have hS := hS2
      clear hS2
      try simp only [Act.put, List.setIfInBounds_toArray, List.set_cons_zero, List.set_cons_succ]
      refine gs_take (i := 2) (d := (some 26)) (v := ?_) rfl rfl (by kernel_rfl) (fun _ _ _ h => nomatch h.1) (by rfl) hS (fun w' hb' => ?_) ?_
      rotate_left
      · (try go_simp); (try with_reducible rfl)
      try simp only [Act.put, List.setIfInBounds_toArray, List.set_cons_zero, List.set_cons_succ]
      refine gs_run2 (i := 3) (k := 11) rfl rfl (by kernel_rfl) (by rfl) (by rfl) (fun K hK => ?_) (fun K hK => ?_)
      · skip
        go_simp
        refine (I2.out _).mono ?_
        rintro e w27 ⟨rfl, g⟩
        have hS2 := hS.trans (g.mono hS.size)
        refine hK _ _ ⟨hS2, ?_⟩
        clear hK K g hS
        have hS := hS2
        clear hS2
        try simp only [Act.put, List.setIfInBounds_toArray, List.set_cons_zero, List.set_cons_succ]
        refine gs_take (i := 4) (d := (some 28)) (v := ?_) rfl rfl (by kernel_rfl) (fun _ _ _ h => nomatch h.1) (by rfl) hS (fun w' hb' => ?_) ?_
        rotate_left
        · (try go_simp); (try with_reducible rfl)
        try simp only [Act.put, List.setIfInBounds_toArray, List.set_cons_zero, List.set_cons_succ]
        refine gs_run2 (i := 5) (k := 11) rfl rfl (by kernel_rfl) (by rfl) (by rfl) (fun K hK => ?_) (fun K hK => ?_)
        · skip
          go_simp
          have g := (Below.refl (w27).heap.size w27).alloc (Nat.le_refl _) (.cells #[.string (ByteArray.mk #[97]), .int .i64 2, .int .i64 1, .string (str []), .string (ByteArray.mk #[98]), .int .i64 2, .int .i64 2, .string (str [])] 68)
          have hS2 := hS.alloc hS.size (.cells #[.string (ByteArray.mk #[97]), .int .i64 2, .int .i64 1, .string (str []), .string (ByteArray.mk #[98]), .int .i64 2, .int .i64 2, .string (str [])] 68)
          have qs := alloc_at hS (.cells #[.string (ByteArray.mk #[97]), .int .i64 2, .int .i64 1, .string (str []), .string (ByteArray.mk #[98]), .int .i64 2, .int .i64 2, .string (str [])] 68)
          obtain ⟨Ws, hWs⟩ : ∃ X, X = World.alloc w27 (.cells #[.string (ByteArray.mk #[97]), .int .i64 2, .int .i64 1, .string (str []), .string (ByteArray.mk #[98]), .int .i64 2, .int .i64 2, .string (str [])] 68) := ⟨_, rfl⟩
          obtain ⟨G, hG⟩ : ∃ n, n = (w27).heap.size := ⟨_, rfl⟩
          rw [← hWs] at hS2 qs ⊢
          rw [← hG] at qs ⊢
          clear hWs hG g
          refine hK _ _ ⟨hS2, ?_⟩
          clear hK K hS
          have hS := hS2
          clear hS2
          try simp only [Act.put, List.setIfInBounds_toArray, List.set_cons_zero, List.set_cons_succ]
          refine gs_run2 (i := 6) (k := 11) rfl rfl (by kernel_rfl) (by rfl) (by rfl) (fun K hK => ?_) (fun K hK => ?_)
          · skip
            go_simp
            refine (TK.out _ _ hS (rde_block ed1 (show (Ws).heap[G]? = some (.cells (ed1.flatMap edC).toArray 68 (0, 0)) from qs) (by decide))).mono ?_
            rintro e wt ⟨C, rfl, hC, hone, HT, g⟩
            have hS2 := hS.trans (g.mono hS.size)
            refine hK _ _ ⟨hS2, ?_⟩
            clear hK K hS qs
            have hS := hS2
            clear hS2
            try simp only [Act.put, List.setIfInBounds_toArray, List.set_cons_zero, List.set_cons_succ]
            refine gs_take (i := 7) (d := (some 23)) (v := ?_) rfl rfl (by kernel_rfl) (fun _ _ _ h => nomatch h.1) (by rfl) hS (fun w' hb' => ?_) ?_
            rotate_left
            · (try go_simp); (try with_reducible rfl)
            try simp only [Act.put, List.setIfInBounds_toArray, List.set_cons_zero, List.set_cons_succ]
            refine gs_take (i := 8) (d := (some 31)) (v := ?_) rfl rfl (by kernel_rfl) (fun _ _ _ h => nomatch h.1) (by rfl) hS (fun w' hb' => ?_) ?_
            rotate_left
            · (try go_simp); (try with_reducible rfl)
            try simp only [Act.put, List.setIfInBounds_toArray, List.set_cons_zero, List.set_cons_succ]
            refine gs_take (i := 9) (d := (some 32)) (v := ?_) rfl rfl (by kernel_rfl) (fun _ _ _ h => nomatch h.1) (by rfl) hS (fun w' hb' => ?_) ?_
            rotate_left
            · (try go_simp); (try with_reducible rfl)
            try simp only [Act.put, List.setIfInBounds_toArray, List.set_cons_zero, List.set_cons_succ]
            refine gs_take (i := 10) (d := (some 33)) (v := ?_) rfl rfl (by kernel_rfl) (fun _ _ _ h => nomatch h.1) (by rfl) hS (fun w' hb' => ?_) ?_
            rotate_left
            · (try go_simp); (try with_reducible rfl)
            try simp only [Act.put, List.setIfInBounds_toArray, List.set_cons_zero, List.set_cons_succ]
            refine gs_run (i := 11) rfl (by kernel_rfl) (by rfl) (fun K hK => ?_)
            go_simp
            have g := (Below.refl (wt).heap.size (wt)).alloc (Nat.le_refl _) (.cells zS 28)
            have hS2 := hS.alloc hS.size (.cells zS 28)
            have qz := alloc_at hS (.cells zS 28)
            have nB := hS.size
            obtain ⟨Wz, hWz⟩ : ∃ Y, Y = World.alloc (wt) (.cells zS 28) := ⟨_, rfl⟩
            obtain ⟨B, hB⟩ : ∃ n, n = (wt).heap.size := ⟨_, rfl⟩
            rw [← hWz] at hS2 qz g ⊢
            rw [← hB] at qz nB ⊢
            have hBC : B < Ws.heap.size ∨ wt.heap.size ≤ B := .inr (by rw [hB]; exact Nat.le_refl _)
            have hWt := g
            clear hWz hB
            refine hK _ _ ⟨hS2, ?_⟩
            clear hK K hS
            have hS := hS2
            clear hS2
            try simp only [Act.put, List.setIfInBounds_toArray, List.set_cons_zero, List.set_cons_succ]
            refine gs_run (i := 12) rfl (by kernel_rfl) (by rfl) (fun K hK => ?_)
            refine wp_store_row (o := ⟨none, _, _, _, _, _⟩) 28 (.tmp 3) (.tmp 31) rfl B C rfl rfl _ zS qz (infoS hC) (zS_size.trans hC.symm) hone ?_
            obtain ⟨W9, hW9⟩ : ∃ X, X = World.setRow Wz B C := ⟨_, rfl⟩
            rw [← hW9]
            have q9 : W9.heap[B]? = some (.cells C 28 (0, 0)) := by rw [hW9]; exact setRow_heap _ _ _ _ _ _ qz
            have R9 := Lib.hid (HT.out B nB hBC W9 (fun k hk hn => by rw [hW9]; exact (setRow_other _ _ _ _ hn).trans (hWt.block k hk)))
            have hS2 : Below WS.heap.size WS W9 := by rw [hW9]; exact below_row hS nB C
            clear hW9
            refine hK _ _ ⟨hS2, ?_⟩
            clear hK K hS
            have hS := hS2
            clear hS2
            try simp only [Act.put, List.setIfInBounds_toArray, List.set_cons_zero, List.set_cons_succ]
            refine gs_take (i := 13) (d := (some 4)) (v := ?_) rfl rfl (by kernel_rfl) (fun _ _ _ h => nomatch h.1) (by rfl) hS (fun w' hb' => ?_) ?_
            rotate_left
            · (try go_simp); (try with_reducible rfl)
            try simp only [Act.put, List.setIfInBounds_toArray, List.set_cons_zero, List.set_cons_succ]
            refine gs_take (i := 14) (d := (some 5)) (v := ?_) rfl rfl (by kernel_rfl) (fun _ _ _ h => nomatch h.1) (by rfl) hS (fun w' hb' => ?_) ?_
            rotate_left
            · (try go_simp); (try with_reducible rfl)
            try simp only [Act.put, List.setIfInBounds_toArray, List.set_cons_zero, List.set_cons_succ]
            refine gs_done (by kernel_rfl) ?_
            refine ⟨rfl, (B, C, G), ?_, ?_⟩
            · simp only [List.foldl_cons, List.foldl_nil, Act.put, List.setIfInBounds_toArray, List.set_cons_zero, List.set_cons_succ]
            · exact ⟨q9, hC, R9, hS⟩
          · skip
            go_simp
            have g := (Below.refl (Ws).heap.size (Ws)).alloc (Nat.le_refl _) (.cells zS 28)
            have hS2 := hS.alloc hS.size (.cells zS 28)
            have qz := alloc_at hS (.cells zS 28)
            have nB := hS.size
            replace qs := (g.block _ (lt_of_block qs)).trans qs
            obtain ⟨Wz, hWz⟩ : ∃ Y, Y = World.alloc (Ws) (.cells zS 28) := ⟨_, rfl⟩
            obtain ⟨B, hB⟩ : ∃ n, n = (Ws).heap.size := ⟨_, rfl⟩
            rw [← hWz] at hS2 qz qs ⊢
            rw [← hB] at qz nB ⊢
            have hWt := g
            clear hWz hB
            refine hK _ _ ⟨hS2, ?_⟩
            clear hK K hS
            have hS := hS2
            clear hS2
            try simp only [Act.put, List.setIfInBounds_toArray, List.set_cons_zero, List.set_cons_succ]
            refine gs_run (i := 6) rfl (by kernel_rfl) (by rfl) (fun K hK => ?_)
            go_simp
            refine (TK.out _ _ hS (rde_block ed1 (show (Wz).heap[G]? = some (.cells (ed1.flatMap edC).toArray 68 (0, 0)) from qs) (by decide))).mono ?_
            rintro e wt ⟨C, rfl, hC, hone, HT, g⟩
            have hBC : B < Wz.heap.size ∨ wt.heap.size ≤ B := .inl (lt_of_block qz)
            replace qz := (g.block _ (lt_of_block qz)).trans qz
            have hS2 := hS.trans (g.mono hS.size)
            refine hK _ _ ⟨hS2, ?_⟩
            clear hK K hS qs
            have hS := hS2
            clear hS2 g
            try simp only [Act.put, List.setIfInBounds_toArray, List.set_cons_zero, List.set_cons_succ]
            refine gs_take (i := 7) (d := (some 23)) (v := ?_) rfl rfl (by kernel_rfl) (fun _ _ _ h => nomatch h.1) (by rfl) hS (fun w' hb' => ?_) ?_
            rotate_left
            · (try go_simp); (try with_reducible rfl)
            try simp only [Act.put, List.setIfInBounds_toArray, List.set_cons_zero, List.set_cons_succ]
            refine gs_take (i := 8) (d := (some 31)) (v := ?_) rfl rfl (by kernel_rfl) (fun _ _ _ h => nomatch h.1) (by rfl) hS (fun w' hb' => ?_) ?_
            rotate_left
            · (try go_simp); (try with_reducible rfl)
            try simp only [Act.put, List.setIfInBounds_toArray, List.set_cons_zero, List.set_cons_succ]
            refine gs_take (i := 9) (d := (some 32)) (v := ?_) rfl rfl (by kernel_rfl) (fun _ _ _ h => nomatch h.1) (by rfl) hS (fun w' hb' => ?_) ?_
            rotate_left
            · (try go_simp); (try with_reducible rfl)
            try simp only [Act.put, List.setIfInBounds_toArray, List.set_cons_zero, List.set_cons_succ]
            refine gs_take (i := 10) (d := (some 33)) (v := ?_) rfl rfl (by kernel_rfl) (fun _ _ _ h => nomatch h.1) (by rfl) hS (fun w' hb' => ?_) ?_
            rotate_left
            · (try go_simp); (try with_reducible rfl)
            try simp only [Act.put, List.setIfInBounds_toArray, List.set_cons_zero, List.set_cons_succ]
            refine gs_run (i := 12) rfl (by kernel_rfl) (by rfl) (fun K hK => ?_)
            refine wp_store_row (o := ⟨none, _, _, _, _, _⟩) 28 (.tmp 3) (.tmp 31) rfl B C rfl rfl _ zS qz (infoS hC) (zS_size.trans hC.symm) hone ?_
            obtain ⟨W9, hW9⟩ : ∃ X, X = World.setRow wt B C := ⟨_, rfl⟩
            rw [← hW9]
            have q9 : W9.heap[B]? = some (.cells C 28 (0, 0)) := by rw [hW9]; exact setRow_heap _ _ _ _ _ _ qz
            have R9 := Lib.hid (HT.out B nB hBC W9 (fun k hk hn => by rw [hW9]; exact (setRow_other _ _ _ _ hn)))
            have hS2 : Below WS.heap.size WS W9 := by rw [hW9]; exact below_row hS nB C
            clear hW9
            refine hK _ _ ⟨hS2, ?_⟩
            clear hK K hS
            have hS := hS2
            clear hS2
            try simp only [Act.put, List.setIfInBounds_toArray, List.set_cons_zero, List.set_cons_succ]
            refine gs_take (i := 13) (d := (some 4)) (v := ?_) rfl rfl (by kernel_rfl) (fun _ _ _ h => nomatch h.1) (by rfl) hS (fun w' hb' => ?_) ?_
            rotate_left
            · (try go_simp); (try with_reducible rfl)
            try simp only [Act.put, List.setIfInBounds_toArray, List.set_cons_zero, List.set_cons_succ]
            refine gs_take (i := 14) (d := (some 5)) (v := ?_) rfl rfl (by kernel_rfl) (fun _ _ _ h => nomatch h.1) (by rfl) hS (fun w' hb' => ?_) ?_
            rotate_left
            · (try go_simp); (try with_reducible rfl)
            try simp only [Act.put, List.setIfInBounds_toArray, List.set_cons_zero, List.set_cons_succ]
            refine gs_done (by kernel_rfl) ?_
            refine ⟨rfl, (B, C, G), ?_, ?_⟩
            · simp only [List.foldl_cons, List.foldl_nil, Act.put, List.setIfInBounds_toArray, List.set_cons_zero, List.set_cons_succ]
            · exact ⟨q9, hC, R9, hS⟩
        · skip
          go_simp
          have g := (Below.refl (w27).heap.size (w27)).alloc (Nat.le_refl _) (.cells zS 28)
          have hS2 := hS.alloc hS.size (.cells zS 28)
          have qz := alloc_at hS (.cells zS 28)
          have nB := hS.size
          obtain ⟨Wz, hWz⟩ : ∃ Y, Y = World.alloc (w27) (.cells zS 28) := ⟨_, rfl⟩
          obtain ⟨B, hB⟩ : ∃ n, n = (w27).heap.size := ⟨_, rfl⟩
          rw [← hWz] at hS2 qz ⊢
          rw [← hB] at qz nB ⊢
          have hWt := g
          clear hWz hB
          refine hK _ _ ⟨hS2, ?_⟩
          clear hK K hS
          have hS := hS2
          clear hS2
          try simp only [Act.put, List.setIfInBounds_toArray, List.set_cons_zero, List.set_cons_succ]
          refine gs_run (i := 5) rfl (by kernel_rfl) (by rfl) (fun K hK => ?_)
          go_simp
          have g := (Below.refl (Wz).heap.size Wz).alloc (Nat.le_refl _) (.cells #[.string (ByteArray.mk #[97]), .int .i64 2, .int .i64 1, .string (str []), .string (ByteArray.mk #[98]), .int .i64 2, .int .i64 2, .string (str [])] 68)
          have hS2 := hS.alloc hS.size (.cells #[.string (ByteArray.mk #[97]), .int .i64 2, .int .i64 1, .string (str []), .string (ByteArray.mk #[98]), .int .i64 2, .int .i64 2, .string (str [])] 68)
          have qs := alloc_at hS (.cells #[.string (ByteArray.mk #[97]), .int .i64 2, .int .i64 1, .string (str []), .string (ByteArray.mk #[98]), .int .i64 2, .int .i64 2, .string (str [])] 68)
          replace qz := (g.block _ (lt_of_block qz)).trans qz
          obtain ⟨Ws, hWs⟩ : ∃ X, X = World.alloc Wz (.cells #[.string (ByteArray.mk #[97]), .int .i64 2, .int .i64 1, .string (str []), .string (ByteArray.mk #[98]), .int .i64 2, .int .i64 2, .string (str [])] 68) := ⟨_, rfl⟩
          obtain ⟨G, hG⟩ : ∃ n, n = (Wz).heap.size := ⟨_, rfl⟩
          rw [← hWs] at hS2 qs qz ⊢
          rw [← hG] at qs ⊢
          clear hWs hG g
          refine hK _ _ ⟨hS2, ?_⟩
          clear hK K hS
          have hS := hS2
          clear hS2
          try simp only [Act.put, List.setIfInBounds_toArray, List.set_cons_zero, List.set_cons_succ]
          refine gs_run (i := 6) rfl (by kernel_rfl) (by rfl) (fun K hK => ?_)
          go_simp
          refine (TK.out _ _ hS (rde_block ed1 (show (Ws).heap[G]? = some (.cells (ed1.flatMap edC).toArray 68 (0, 0)) from qs) (by decide))).mono ?_
          rintro e wt ⟨C, rfl, hC, hone, HT, g⟩
          have hBC : B < Ws.heap.size ∨ wt.heap.size ≤ B := .inl (lt_of_block qz)
          replace qz := (g.block _ (lt_of_block qz)).trans qz
          have hS2 := hS.trans (g.mono hS.size)
          refine hK _ _ ⟨hS2, ?_⟩
          clear hK K hS qs
          have hS := hS2
          clear hS2 g
          try simp only [Act.put, List.setIfInBounds_toArray, List.set_cons_zero, List.set_cons_succ]
          refine gs_take (i := 7) (d := (some 23)) (v := ?_) rfl rfl (by kernel_rfl) (fun _ _ _ h => nomatch h.1) (by rfl) hS (fun w' hb' => ?_) ?_
          rotate_left
          · (try go_simp); (try with_reducible rfl)
          try simp only [Act.put, List.setIfInBounds_toArray, List.set_cons_zero, List.set_cons_succ]
          refine gs_take (i := 8) (d := (some 31)) (v := ?_) rfl rfl (by kernel_rfl) (fun _ _ _ h => nomatch h.1) (by rfl) hS (fun w' hb' => ?_) ?_
          rotate_left
          · (try go_simp); (try with_reducible rfl)
          try simp only [Act.put, List.setIfInBounds_toArray, List.set_cons_zero, List.set_cons_succ]
          refine gs_take (i := 9) (d := (some 32)) (v := ?_) rfl rfl (by kernel_rfl) (fun _ _ _ h => nomatch h.1) (by rfl) hS (fun w' hb' => ?_) ?_
          rotate_left
          · (try go_simp); (try with_reducible rfl)
          try simp only [Act.put, List.setIfInBounds_toArray, List.set_cons_zero, List.set_cons_succ]
          refine gs_take (i := 10) (d := (some 33)) (v := ?_) rfl rfl (by kernel_rfl) (fun _ _ _ h => nomatch h.1) (by rfl) hS (fun w' hb' => ?_) ?_
          rotate_left
          · (try go_simp); (try with_reducible rfl)
          try simp only [Act.put, List.setIfInBounds_toArray, List.set_cons_zero, List.set_cons_succ]
          refine gs_run (i := 12) rfl (by kernel_rfl) (by rfl) (fun K hK => ?_)
          refine wp_store_row (o := ⟨none, _, _, _, _, _⟩) 28 (.tmp 3) (.tmp 31) rfl B C rfl rfl _ zS qz (infoS hC) (zS_size.trans hC.symm) hone ?_
          obtain ⟨W9, hW9⟩ : ∃ X, X = World.setRow wt B C := ⟨_, rfl⟩
          rw [← hW9]
          have q9 : W9.heap[B]? = some (.cells C 28 (0, 0)) := by rw [hW9]; exact setRow_heap _ _ _ _ _ _ qz
          have R9 := Lib.hid (HT.out B nB hBC W9 (fun k hk hn => by rw [hW9]; exact (setRow_other _ _ _ _ hn)))
          have hS2 : Below WS.heap.size WS W9 := by rw [hW9]; exact below_row hS nB C
          clear hW9
          refine hK _ _ ⟨hS2, ?_⟩
          clear hK K hS
          have hS := hS2
          clear hS2
          try simp only [Act.put, List.setIfInBounds_toArray, List.set_cons_zero, List.set_cons_succ]
          refine gs_take (i := 13) (d := (some 4)) (v := ?_) rfl rfl (by kernel_rfl) (fun _ _ _ h => nomatch h.1) (by rfl) hS (fun w' hb' => ?_) ?_
          rotate_left
          · (try go_simp); (try with_reducible rfl)
          try simp only [Act.put, List.setIfInBounds_toArray, List.set_cons_zero, List.set_cons_succ]
          refine gs_take (i := 14) (d := (some 5)) (v := ?_) rfl rfl (by kernel_rfl) (fun _ _ _ h => nomatch h.1) (by rfl) hS (fun w' hb' => ?_) ?_
          rotate_left
          · (try go_simp); (try with_reducible rfl)
          try simp only [Act.put, List.setIfInBounds_toArray, List.set_cons_zero, List.set_cons_succ]
          refine gs_done (by kernel_rfl) ?_
          refine ⟨rfl, (B, C, G), ?_, ?_⟩
          · simp only [List.foldl_cons, List.foldl_nil, Act.put, List.setIfInBounds_toArray, List.set_cons_zero, List.set_cons_succ]
          · exact ⟨q9, hC, R9, hS⟩
      · skip
        go_simp
        have g := (Below.refl (w25).heap.size (w25)).alloc (Nat.le_refl _) (.cells zS 28)
        have hS2 := hS.alloc hS.size (.cells zS 28)
        have qz := alloc_at hS (.cells zS 28)
        have nB := hS.size
        obtain ⟨Wz, hWz⟩ : ∃ Y, Y = World.alloc (w25) (.cells zS 28) := ⟨_, rfl⟩
        obtain ⟨B, hB⟩ : ∃ n, n = (w25).heap.size := ⟨_, rfl⟩
        rw [← hWz] at hS2 qz ⊢
        rw [← hB] at qz nB ⊢
        have hWt := g
        clear hWz hB
        refine hK _ _ ⟨hS2, ?_⟩
        clear hK K hS
        have hS := hS2
        clear hS2
        try simp only [Act.put, List.setIfInBounds_toArray, List.set_cons_zero, List.set_cons_succ]
        refine gs_run (i := 3) rfl (by kernel_rfl) (by rfl) (fun K hK => ?_)
        go_simp
        refine (I2.out _).mono ?_
        rintro e w27 ⟨rfl, g⟩
        replace qz := (g.block _ (lt_of_block qz)).trans qz
        have hS2 := hS.trans (g.mono hS.size)
        refine hK _ _ ⟨hS2, ?_⟩
        clear hK K g hS
        have hS := hS2
        clear hS2
        try simp only [Act.put, List.setIfInBounds_toArray, List.set_cons_zero, List.set_cons_succ]
        refine gs_take (i := 4) (d := (some 28)) (v := ?_) rfl rfl (by kernel_rfl) (fun _ _ _ h => nomatch h.1) (by rfl) hS (fun w' hb' => ?_) ?_
        rotate_left
        · (try go_simp); (try with_reducible rfl)
        try simp only [Act.put, List.setIfInBounds_toArray, List.set_cons_zero, List.set_cons_succ]
        refine gs_run (i := 5) rfl (by kernel_rfl) (by rfl) (fun K hK => ?_)
        go_simp
        have g := (Below.refl (w27).heap.size w27).alloc (Nat.le_refl _) (.cells #[.string (ByteArray.mk #[97]), .int .i64 2, .int .i64 1, .string (str []), .string (ByteArray.mk #[98]), .int .i64 2, .int .i64 2, .string (str [])] 68)
        have hS2 := hS.alloc hS.size (.cells #[.string (ByteArray.mk #[97]), .int .i64 2, .int .i64 1, .string (str []), .string (ByteArray.mk #[98]), .int .i64 2, .int .i64 2, .string (str [])] 68)
        have qs := alloc_at hS (.cells #[.string (ByteArray.mk #[97]), .int .i64 2, .int .i64 1, .string (str []), .string (ByteArray.mk #[98]), .int .i64 2, .int .i64 2, .string (str [])] 68)
        replace qz := (g.block _ (lt_of_block qz)).trans qz
        obtain ⟨Ws, hWs⟩ : ∃ X, X = World.alloc w27 (.cells #[.string (ByteArray.mk #[97]), .int .i64 2, .int .i64 1, .string (str []), .string (ByteArray.mk #[98]), .int .i64 2, .int .i64 2, .string (str [])] 68) := ⟨_, rfl⟩
        obtain ⟨G, hG⟩ : ∃ n, n = (w27).heap.size := ⟨_, rfl⟩
        rw [← hWs] at hS2 qs qz ⊢
        rw [← hG] at qs ⊢
        clear hWs hG g
        refine hK _ _ ⟨hS2, ?_⟩
        clear hK K hS
        have hS := hS2
        clear hS2
        try simp only [Act.put, List.setIfInBounds_toArray, List.set_cons_zero, List.set_cons_succ]
        refine gs_run (i := 6) rfl (by kernel_rfl) (by rfl) (fun K hK => ?_)
        go_simp
        refine (TK.out _ _ hS (rde_block ed1 (show (Ws).heap[G]? = some (.cells (ed1.flatMap edC).toArray 68 (0, 0)) from qs) (by decide))).mono ?_
        rintro e wt ⟨C, rfl, hC, hone, HT, g⟩
        have hBC : B < Ws.heap.size ∨ wt.heap.size ≤ B := .inl (lt_of_block qz)
        replace qz := (g.block _ (lt_of_block qz)).trans qz
        have hS2 := hS.trans (g.mono hS.size)
        refine hK _ _ ⟨hS2, ?_⟩
        clear hK K hS qs
        have hS := hS2
        clear hS2 g
        try simp only [Act.put, List.setIfInBounds_toArray, List.set_cons_zero, List.set_cons_succ]
        refine gs_take (i := 7) (d := (some 23)) (v := ?_) rfl rfl (by kernel_rfl) (fun _ _ _ h => nomatch h.1) (by rfl) hS (fun w' hb' => ?_) ?_
        rotate_left
        · (try go_simp); (try with_reducible rfl)
        try simp only [Act.put, List.setIfInBounds_toArray, List.set_cons_zero, List.set_cons_succ]
        refine gs_take (i := 8) (d := (some 31)) (v := ?_) rfl rfl (by kernel_rfl) (fun _ _ _ h => nomatch h.1) (by rfl) hS (fun w' hb' => ?_) ?_
        rotate_left
        · (try go_simp); (try with_reducible rfl)
        try simp only [Act.put, List.setIfInBounds_toArray, List.set_cons_zero, List.set_cons_succ]
        refine gs_take (i := 9) (d := (some 32)) (v := ?_) rfl rfl (by kernel_rfl) (fun _ _ _ h => nomatch h.1) (by rfl) hS (fun w' hb' => ?_) ?_
        rotate_left
        · (try go_simp); (try with_reducible rfl)
        try simp only [Act.put, List.setIfInBounds_toArray, List.set_cons_zero, List.set_cons_succ]
        refine gs_take (i := 10) (d := (some 33)) (v := ?_) rfl rfl (by kernel_rfl) (fun _ _ _ h => nomatch h.1) (by rfl) hS (fun w' hb' => ?_) ?_
        rotate_left
        · (try go_simp); (try with_reducible rfl)
        try simp only [Act.put, List.setIfInBounds_toArray, List.set_cons_zero, List.set_cons_succ]
        refine gs_run (i := 12) rfl (by kernel_rfl) (by rfl) (fun K hK => ?_)
        refine wp_store_row (o := ⟨none, _, _, _, _, _⟩) 28 (.tmp 3) (.tmp 31) rfl B C rfl rfl _ zS qz (infoS hC) (zS_size.trans hC.symm) hone ?_
        obtain ⟨W9, hW9⟩ : ∃ X, X = World.setRow wt B C := ⟨_, rfl⟩
        rw [← hW9]
        have q9 : W9.heap[B]? = some (.cells C 28 (0, 0)) := by rw [hW9]; exact setRow_heap _ _ _ _ _ _ qz
        have R9 := Lib.hid (HT.out B nB hBC W9 (fun k hk hn => by rw [hW9]; exact (setRow_other _ _ _ _ hn)))
        have hS2 : Below WS.heap.size WS W9 := by rw [hW9]; exact below_row hS nB C
        clear hW9
        refine hK _ _ ⟨hS2, ?_⟩
        clear hK K hS
        have hS := hS2
        clear hS2
        try simp only [Act.put, List.setIfInBounds_toArray, List.set_cons_zero, List.set_cons_succ]
        refine gs_take (i := 13) (d := (some 4)) (v := ?_) rfl rfl (by kernel_rfl) (fun _ _ _ h => nomatch h.1) (by rfl) hS (fun w' hb' => ?_) ?_
        rotate_left
        · (try go_simp); (try with_reducible rfl)
        try simp only [Act.put, List.setIfInBounds_toArray, List.set_cons_zero, List.set_cons_succ]
        refine gs_take (i := 14) (d := (some 5)) (v := ?_) rfl rfl (by kernel_rfl) (fun _ _ _ h => nomatch h.1) (by rfl) hS (fun w' hb' => ?_) ?_
        rotate_left
        · (try go_simp); (try with_reducible rfl)
        try simp only [Act.put, List.setIfInBounds_toArray, List.set_cons_zero, List.set_cons_succ]
        refine gs_done (by kernel_rfl) ?_
        refine ⟨rfl, (B, C, G), ?_, ?_⟩
        · simp only [List.foldl_cons, List.foldl_nil, Act.put, List.setIfInBounds_toArray, List.set_cons_zero, List.set_cons_succ]
        · exact ⟨q9, hC, R9, hS⟩
    · skip
      go_simp
      have g := (Below.refl (W0).heap.size (W0)).alloc (Nat.le_refl _) (.cells zS 28)
      have hS2 := hS.alloc hS.size (.cells zS 28)
      have qz := alloc_at hS (.cells zS 28)
      have nB := hS.size
      obtain ⟨Wz, hWz⟩ : ∃ Y, Y = World.alloc (W0) (.cells zS 28) := ⟨_, rfl⟩
      obtain ⟨B, hB⟩ : ∃ n, n = (W0).heap.size := ⟨_, rfl⟩
      rw [← hWz] at hS2 qz ⊢
      rw [← hB] at qz nB ⊢
      have hWt := g
      clear hWz hB
      refine hK _ _ ⟨hS2, ?_⟩
      clear hK K hS
      have hS := hS2
      clear hS2
      try simp only [Act.put, List.setIfInBounds_toArray, List.set_cons_zero, List.set_cons_succ]
      refine gs_run (i := 1) rfl (by kernel_rfl) (by rfl) (fun K hK => ?_)
      go_simp
      refine (I1.out _).mono ?_
      rintro e w25 ⟨rfl, g⟩
      replace qz := (g.block _ (lt_of_block qz)).trans qz
      have hS2 := hS.trans (g.mono hS.size)
      refine hK _ _ ⟨hS2, ?_⟩
      clear hK K g hS
      have hS := hS2
      clear hS2
      try simp only [Act.put, List.setIfInBounds_toArray, List.set_cons_zero, List.set_cons_succ]
      refine gs_take (i := 2) (d := (some 26)) (v := ?_) rfl rfl (by kernel_rfl) (fun _ _ _ h => nomatch h.1) (by rfl) hS (fun w' hb' => ?_) ?_
      rotate_left
      · (try go_simp); (try with_reducible rfl)
      try simp only [Act.put, List.setIfInBounds_toArray, List.set_cons_zero, List.set_cons_succ]
      refine gs_run (i := 3) rfl (by kernel_rfl) (by rfl) (fun K hK => ?_)
      go_simp
      refine (I2.out _).mono ?_
      rintro e w27 ⟨rfl, g⟩
      replace qz := (g.block _ (lt_of_block qz)).trans qz
      have hS2 := hS.trans (g.mono hS.size)
      refine hK _ _ ⟨hS2, ?_⟩
      clear hK K g hS
      have hS := hS2
      clear hS2
      try simp only [Act.put, List.setIfInBounds_toArray, List.set_cons_zero, List.set_cons_succ]
      refine gs_take (i := 4) (d := (some 28)) (v := ?_) rfl rfl (by kernel_rfl) (fun _ _ _ h => nomatch h.1) (by rfl) hS (fun w' hb' => ?_) ?_
      rotate_left
      · (try go_simp); (try with_reducible rfl)
      try simp only [Act.put, List.setIfInBounds_toArray, List.set_cons_zero, List.set_cons_succ]
      refine gs_run (i := 5) rfl (by kernel_rfl) (by rfl) (fun K hK => ?_)
      go_simp
      have g := (Below.refl (w27).heap.size w27).alloc (Nat.le_refl _) (.cells #[.string (ByteArray.mk #[97]), .int .i64 2, .int .i64 1, .string (str []), .string (ByteArray.mk #[98]), .int .i64 2, .int .i64 2, .string (str [])] 68)
      have hS2 := hS.alloc hS.size (.cells #[.string (ByteArray.mk #[97]), .int .i64 2, .int .i64 1, .string (str []), .string (ByteArray.mk #[98]), .int .i64 2, .int .i64 2, .string (str [])] 68)
      have qs := alloc_at hS (.cells #[.string (ByteArray.mk #[97]), .int .i64 2, .int .i64 1, .string (str []), .string (ByteArray.mk #[98]), .int .i64 2, .int .i64 2, .string (str [])] 68)
      replace qz := (g.block _ (lt_of_block qz)).trans qz
      obtain ⟨Ws, hWs⟩ : ∃ X, X = World.alloc w27 (.cells #[.string (ByteArray.mk #[97]), .int .i64 2, .int .i64 1, .string (str []), .string (ByteArray.mk #[98]), .int .i64 2, .int .i64 2, .string (str [])] 68) := ⟨_, rfl⟩
      obtain ⟨G, hG⟩ : ∃ n, n = (w27).heap.size := ⟨_, rfl⟩
      rw [← hWs] at hS2 qs qz ⊢
      rw [← hG] at qs ⊢
      clear hWs hG g
      refine hK _ _ ⟨hS2, ?_⟩
      clear hK K hS
      have hS := hS2
      clear hS2
      try simp only [Act.put, List.setIfInBounds_toArray, List.set_cons_zero, List.set_cons_succ]
      refine gs_run (i := 6) rfl (by kernel_rfl) (by rfl) (fun K hK => ?_)
      go_simp
      refine (TK.out _ _ hS (rde_block ed1 (show (Ws).heap[G]? = some (.cells (ed1.flatMap edC).toArray 68 (0, 0)) from qs) (by decide))).mono ?_
      rintro e wt ⟨C, rfl, hC, hone, HT, g⟩
      have hBC : B < Ws.heap.size ∨ wt.heap.size ≤ B := .inl (lt_of_block qz)
      replace qz := (g.block _ (lt_of_block qz)).trans qz
      have hS2 := hS.trans (g.mono hS.size)
      refine hK _ _ ⟨hS2, ?_⟩
      clear hK K hS qs
      have hS := hS2
      clear hS2 g
      try simp only [Act.put, List.setIfInBounds_toArray, List.set_cons_zero, List.set_cons_succ]
      refine gs_take (i := 7) (d := (some 23)) (v := ?_) rfl rfl (by kernel_rfl) (fun _ _ _ h => nomatch h.1) (by rfl) hS (fun w' hb' => ?_) ?_
      rotate_left
      · (try go_simp); (try with_reducible rfl)
      try simp only [Act.put, List.setIfInBounds_toArray, List.set_cons_zero, List.set_cons_succ]
      refine gs_take (i := 8) (d := (some 31)) (v := ?_) rfl rfl (by kernel_rfl) (fun _ _ _ h => nomatch h.1) (by rfl) hS (fun w' hb' => ?_) ?_
      rotate_left
      · (try go_simp); (try with_reducible rfl)
      try simp only [Act.put, List.setIfInBounds_toArray, List.set_cons_zero, List.set_cons_succ]
      refine gs_take (i := 9) (d := (some 32)) (v := ?_) rfl rfl (by kernel_rfl) (fun _ _ _ h => nomatch h.1) (by rfl) hS (fun w' hb' => ?_) ?_
      rotate_left
      · (try go_simp); (try with_reducible rfl)
      try simp only [Act.put, List.setIfInBounds_toArray, List.set_cons_zero, List.set_cons_succ]
      refine gs_take (i := 10) (d := (some 33)) (v := ?_) rfl rfl (by kernel_rfl) (fun _ _ _ h => nomatch h.1) (by rfl) hS (fun w' hb' => ?_) ?_
      rotate_left
      · (try go_simp); (try with_reducible rfl)
      try simp only [Act.put, List.setIfInBounds_toArray, List.set_cons_zero, List.set_cons_succ]
      refine gs_run (i := 12) rfl (by kernel_rfl) (by rfl) (fun K hK => ?_)
      refine wp_store_row (o := ⟨none, _, _, _, _, _⟩) 28 (.tmp 3) (.tmp 31) rfl B C rfl rfl _ zS qz (infoS hC) (zS_size.trans hC.symm) hone ?_
      obtain ⟨W9, hW9⟩ : ∃ X, X = World.setRow wt B C := ⟨_, rfl⟩
      rw [← hW9]
      have q9 : W9.heap[B]? = some (.cells C 28 (0, 0)) := by rw [hW9]; exact setRow_heap _ _ _ _ _ _ qz
      have R9 := Lib.hid (HT.out B nB hBC W9 (fun k hk hn => by rw [hW9]; exact (setRow_other _ _ _ _ hn)))
      have hS2 : Below WS.heap.size WS W9 := by rw [hW9]; exact below_row hS nB C
      clear hW9
      refine hK _ _ ⟨hS2, ?_⟩
      clear hK K hS
      have hS := hS2
      clear hS2
      try simp only [Act.put, List.setIfInBounds_toArray, List.set_cons_zero, List.set_cons_succ]
      refine gs_take (i := 13) (d := (some 4)) (v := ?_) rfl rfl (by kernel_rfl) (fun _ _ _ h => nomatch h.1) (by rfl) hS (fun w' hb' => ?_) ?_
      rotate_left
      · (try go_simp); (try with_reducible rfl)
      try simp only [Act.put, List.setIfInBounds_toArray, List.set_cons_zero, List.set_cons_succ]
      refine gs_take (i := 14) (d := (some 5)) (v := ?_) rfl rfl (by kernel_rfl) (fun _ _ _ h => nomatch h.1) (by rfl) hS (fun w' hb' => ?_) ?_
      rotate_left
      · (try go_simp); (try with_reducible rfl)
      try simp only [Act.put, List.setIfInBounds_toArray, List.set_cons_zero, List.set_cons_succ]
      refine gs_done (by kernel_rfl) ?_
      refine ⟨rfl, (B, C, G), ?_, ?_⟩
      · simp only [List.foldl_cons, List.foldl_nil, Act.put, List.setIfInBounds_toArray, List.set_cons_zero, List.set_cons_succ]
      · exact ⟨q9, hC, R9, hS⟩
  rintro ⟨B3, C3, G3⟩ y2 ⟨q3, hC3, R3, g3⟩
  simp only [List.foldl_cons, List.foldl_nil, Act.put, List.setIfInBounds_toArray, List.set_cons_zero, List.set_cons_succ]
  have Y2 := Lib.hid (chain BS.out g3)
  have GE := Lib.hid (fun W (g : Below y2.heap.size y2 W) => get3 C3 W (TAB.out.below (chain Y2.out g)) (R3.out.below g (Nat.le_refl _)))
  have RO := Lib.hid (fun W (g : Below y2.heap.size y2 W) => room3 C3 W (TAB.out.below (chain Y2.out g)) (R3.out.below g (Nat.le_refl _)))
  clear RN TK q1 BS g3
  go_wp2_with (first | ((with_reducible refine wpList_load_row (o := ⟨some 35, _, _, _, _, _⟩) rfl 28 (.tmp 3) rfl _ rfl _ C3 (0, 0) _ q3 Tryd.underlying28 rfl (infoS hC3) ?_)) | ((refine (GE.out _ (Below.refl _ _)).mono ?_); rintro e w4 ⟨rfl, g4⟩; (have g5 := g4.alloc g4.size (.cells #[.int .i64 2, .int .i64 1, .string (str [])] 43)); (have q6 := heap_alloc_new w4 (.cells #[.int .i64 2, .int .i64 1, .string (str [])] 43)); (replace q3 := (g5.block _ (lt_of_block q3)).trans q3)) | ((with_reducible refine wpList_load_row (o := ⟨some 41, _, _, _, _, _⟩) rfl 28 (.tmp 3) rfl _ rfl _ C3 (0, 0) _ q3 Tryd.underlying28 rfl (infoS hC3) ?_)) | ((refine (RO.out _ g5).mono ?_); rintro e w5 ⟨rfl, g6⟩; (replace q3 := (g6.block _ (lt_of_block q3)).trans q3); (replace q6 := (g6.block _ (lt_of_block q6)).trans q6); (replace g5 := chain g5 g6); clear g6 g4))
  have RA := Lib.hid (R3.out.below g5 (Nat.le_refl _))
  have Y5 := Lib.hid (chain Y2.out g5)
  have TK := Lib.hid (fun (v : Value) (W : World) (g : Below w5.heap.size w5 W) (h : RdE W v ed2) => (show Calls Tryd.prog 34 #[.agg C3, v] W (TakeR w5.heap.size W 17 1 stQ) from take_rd RA.out g (TAB.out.below (chain Y5.out g)) szA wfA (WfS_len mayA) h szD2 wfD2 tk2))
  clear GE RO R3 Y2 g5
  obtain ⟨N6, hN6⟩ : ∃ n, n = w4.heap.size := ⟨_, rfl⟩
  rw [← hN6] at q6 ⊢
  clear hN6
  refine region_puts_of (fun j : Nat × Array Value × Nat => [(some 46, .agg C3), (some 47, .agg #[.int .i64 2, .int .i64 3, .string (str [])]), (some 48, .agg #[.string (ByteArray.mk #[99]), .int .i64 2, .int .i64 3, .string (str [])]), (some 49, .slice (some ⟨j.2.2, 0, none⟩) 1 1), (some 50, .tuple #[.agg j.2.1, .int .i64 17, .int .i64 1]), (some 45, .tuple #[.agg j.2.1, .int .i64 17, .int .i64 1]), (some 51, .agg j.2.1), (some 52, .int .i64 17), (some 53, .int .i64 1), (some 11, .pointer (some ⟨j.1, 0, none⟩)), (some 12, .int .i64 17), (some 13, .int .i64 1)]) (fun j y => y.heap[j.1]? = some (.cells j.2.1 28 (0, 0)) ∧ j.2.1.size = 35 ∧ Hid (RdS y j.2.1 stQ) ∧ Below w5.heap.size w5 y) ?_ ?_
  · have hS : Below w5.heap.size w5 w5.drew := (Below.refl _ _).drew
    refine gs_start (S := (fun W => Below w5.heap.size w5 W)) (by kernel_rfl) ?_
    obtain ⟨W0, hW0⟩ : ∃ X, X = w5.drew := ⟨_, rfl⟩
    rw [← hW0] at hS ⊢
    clear hW0
    refine gs_take (i := 0) (d := (some 46)) (v := ?_) rfl rfl (by kernel_rfl) (fun _ _ _ h => nomatch h.1) (by rfl) hS (fun w' hb' => ?_) ?_
    rotate_left
    · (refine load_row_op _ _ (.tmp 3) ?_ ?_ ((hb'.block _ (lt_of_block q3)).trans q3) Tryd.underlying28 ?_ (infoS hC3) <;> rfl); (try go_simp); (try with_reducible rfl)
    try simp only [Act.put, List.setIfInBounds_toArray, List.set_cons_zero, List.set_cons_succ]
    refine gs_run2 (i := 1) (k := 9) rfl rfl (by kernel_rfl) (by rfl) (by rfl) (fun K hK => ?_) (fun K hK => ?_)
    · skip
      go_simp
      refine (I3.out _).mono ?_
      rintro e w47 ⟨rfl, g⟩
      have hS2 := hS.trans (g.mono hS.size)
      refine hK _ _ ⟨hS2, ?_⟩
      clear hK K g hS
      have hS := hS2
      clear hS2
      try simp only [Act.put, List.setIfInBounds_toArray, List.set_cons_zero, List.set_cons_succ]
      refine gs_take (i := 2) (d := (some 48)) (v := ?_) rfl rfl (by kernel_rfl) (fun _ _ _ h => nomatch h.1) (by rfl) hS (fun w' hb' => ?_) ?_
      rotate_left
      · (try go_simp); (try with_reducible rfl)
      try simp only [Act.put, List.setIfInBounds_toArray, List.set_cons_zero, List.set_cons_succ]
      refine gs_run2 (i := 3) (k := 9) rfl rfl (by kernel_rfl) (by rfl) (by rfl) (fun K hK => ?_) (fun K hK => ?_)
      · skip
        go_simp
        have g := (Below.refl (w47).heap.size w47).alloc (Nat.le_refl _) (.cells #[.string (ByteArray.mk #[99]), .int .i64 2, .int .i64 3, .string (str [])] 68)
        have hS2 := hS.alloc hS.size (.cells #[.string (ByteArray.mk #[99]), .int .i64 2, .int .i64 3, .string (str [])] 68)
        have qs := alloc_at hS (.cells #[.string (ByteArray.mk #[99]), .int .i64 2, .int .i64 3, .string (str [])] 68)
        obtain ⟨Ws, hWs⟩ : ∃ X, X = World.alloc w47 (.cells #[.string (ByteArray.mk #[99]), .int .i64 2, .int .i64 3, .string (str [])] 68) := ⟨_, rfl⟩
        obtain ⟨G, hG⟩ : ∃ n, n = (w47).heap.size := ⟨_, rfl⟩
        rw [← hWs] at hS2 qs ⊢
        rw [← hG] at qs ⊢
        clear hWs hG g
        refine hK _ _ ⟨hS2, ?_⟩
        clear hK K hS
        have hS := hS2
        clear hS2
        try simp only [Act.put, List.setIfInBounds_toArray, List.set_cons_zero, List.set_cons_succ]
        refine gs_run2 (i := 4) (k := 9) rfl rfl (by kernel_rfl) (by rfl) (by rfl) (fun K hK => ?_) (fun K hK => ?_)
        · skip
          go_simp
          refine (TK.out _ _ hS (rde_block ed2 (show (Ws).heap[G]? = some (.cells (ed2.flatMap edC).toArray 68 (0, 0)) from qs) (by decide))).mono ?_
          rintro e wt ⟨C, rfl, hC, hone, HT, g⟩
          have hS2 := hS.trans (g.mono hS.size)
          refine hK _ _ ⟨hS2, ?_⟩
          clear hK K hS qs
          have hS := hS2
          clear hS2
          try simp only [Act.put, List.setIfInBounds_toArray, List.set_cons_zero, List.set_cons_succ]
          refine gs_take (i := 5) (d := (some 45)) (v := ?_) rfl rfl (by kernel_rfl) (fun _ _ _ h => nomatch h.1) (by rfl) hS (fun w' hb' => ?_) ?_
          rotate_left
          · (try go_simp); (try with_reducible rfl)
          try simp only [Act.put, List.setIfInBounds_toArray, List.set_cons_zero, List.set_cons_succ]
          refine gs_take (i := 6) (d := (some 51)) (v := ?_) rfl rfl (by kernel_rfl) (fun _ _ _ h => nomatch h.1) (by rfl) hS (fun w' hb' => ?_) ?_
          rotate_left
          · (try go_simp); (try with_reducible rfl)
          try simp only [Act.put, List.setIfInBounds_toArray, List.set_cons_zero, List.set_cons_succ]
          refine gs_take (i := 7) (d := (some 52)) (v := ?_) rfl rfl (by kernel_rfl) (fun _ _ _ h => nomatch h.1) (by rfl) hS (fun w' hb' => ?_) ?_
          rotate_left
          · (try go_simp); (try with_reducible rfl)
          try simp only [Act.put, List.setIfInBounds_toArray, List.set_cons_zero, List.set_cons_succ]
          refine gs_take (i := 8) (d := (some 53)) (v := ?_) rfl rfl (by kernel_rfl) (fun _ _ _ h => nomatch h.1) (by rfl) hS (fun w' hb' => ?_) ?_
          rotate_left
          · (try go_simp); (try with_reducible rfl)
          try simp only [Act.put, List.setIfInBounds_toArray, List.set_cons_zero, List.set_cons_succ]
          refine gs_run (i := 9) rfl (by kernel_rfl) (by rfl) (fun K hK => ?_)
          go_simp
          have g := (Below.refl (wt).heap.size (wt)).alloc (Nat.le_refl _) (.cells zS 28)
          have hS2 := hS.alloc hS.size (.cells zS 28)
          have qz := alloc_at hS (.cells zS 28)
          have nB := hS.size
          obtain ⟨Wz, hWz⟩ : ∃ Y, Y = World.alloc (wt) (.cells zS 28) := ⟨_, rfl⟩
          obtain ⟨B, hB⟩ : ∃ n, n = (wt).heap.size := ⟨_, rfl⟩
          rw [← hWz] at hS2 qz g ⊢
          rw [← hB] at qz nB ⊢
          have hBC : B < Ws.heap.size ∨ wt.heap.size ≤ B := .inr (by rw [hB]; exact Nat.le_refl _)
          have hWt := g
          clear hWz hB
          refine hK _ _ ⟨hS2, ?_⟩
          clear hK K hS
          have hS := hS2
          clear hS2
          try simp only [Act.put, List.setIfInBounds_toArray, List.set_cons_zero, List.set_cons_succ]
          refine gs_run (i := 10) rfl (by kernel_rfl) (by rfl) (fun K hK => ?_)
          refine wp_store_row (o := ⟨none, _, _, _, _, _⟩) 28 (.tmp 11) (.tmp 51) rfl B C rfl rfl _ zS qz (infoS hC) (zS_size.trans hC.symm) hone ?_
          obtain ⟨W9, hW9⟩ : ∃ X, X = World.setRow Wz B C := ⟨_, rfl⟩
          rw [← hW9]
          have q9 : W9.heap[B]? = some (.cells C 28 (0, 0)) := by rw [hW9]; exact setRow_heap _ _ _ _ _ _ qz
          have R9 := Lib.hid (HT.out B nB hBC W9 (fun k hk hn => by rw [hW9]; exact (setRow_other _ _ _ _ hn).trans (hWt.block k hk)))
          have hS2 : Below w5.heap.size w5 W9 := by rw [hW9]; exact below_row hS nB C
          clear hW9
          refine hK _ _ ⟨hS2, ?_⟩
          clear hK K hS
          have hS := hS2
          clear hS2
          try simp only [Act.put, List.setIfInBounds_toArray, List.set_cons_zero, List.set_cons_succ]
          refine gs_take (i := 11) (d := (some 12)) (v := ?_) rfl rfl (by kernel_rfl) (fun _ _ _ h => nomatch h.1) (by rfl) hS (fun w' hb' => ?_) ?_
          rotate_left
          · (try go_simp); (try with_reducible rfl)
          try simp only [Act.put, List.setIfInBounds_toArray, List.set_cons_zero, List.set_cons_succ]
          refine gs_take (i := 12) (d := (some 13)) (v := ?_) rfl rfl (by kernel_rfl) (fun _ _ _ h => nomatch h.1) (by rfl) hS (fun w' hb' => ?_) ?_
          rotate_left
          · (try go_simp); (try with_reducible rfl)
          try simp only [Act.put, List.setIfInBounds_toArray, List.set_cons_zero, List.set_cons_succ]
          refine gs_done (by kernel_rfl) ?_
          refine ⟨rfl, (B, C, G), ?_, ?_⟩
          · simp only [List.foldl_cons, List.foldl_nil, Act.put, List.setIfInBounds_toArray, List.set_cons_zero, List.set_cons_succ]
          · exact ⟨q9, hC, R9, hS⟩
        · skip
          go_simp
          have g := (Below.refl (Ws).heap.size (Ws)).alloc (Nat.le_refl _) (.cells zS 28)
          have hS2 := hS.alloc hS.size (.cells zS 28)
          have qz := alloc_at hS (.cells zS 28)
          have nB := hS.size
          replace qs := (g.block _ (lt_of_block qs)).trans qs
          obtain ⟨Wz, hWz⟩ : ∃ Y, Y = World.alloc (Ws) (.cells zS 28) := ⟨_, rfl⟩
          obtain ⟨B, hB⟩ : ∃ n, n = (Ws).heap.size := ⟨_, rfl⟩
          rw [← hWz] at hS2 qz qs ⊢
          rw [← hB] at qz nB ⊢
          have hWt := g
          clear hWz hB
          refine hK _ _ ⟨hS2, ?_⟩
          clear hK K hS
          have hS := hS2
          clear hS2
          try simp only [Act.put, List.setIfInBounds_toArray, List.set_cons_zero, List.set_cons_succ]
          refine gs_run (i := 4) rfl (by kernel_rfl) (by rfl) (fun K hK => ?_)
          go_simp
          refine (TK.out _ _ hS (rde_block ed2 (show (Wz).heap[G]? = some (.cells (ed2.flatMap edC).toArray 68 (0, 0)) from qs) (by decide))).mono ?_
          rintro e wt ⟨C, rfl, hC, hone, HT, g⟩
          have hBC : B < Wz.heap.size ∨ wt.heap.size ≤ B := .inl (lt_of_block qz)
          replace qz := (g.block _ (lt_of_block qz)).trans qz
          have hS2 := hS.trans (g.mono hS.size)
          refine hK _ _ ⟨hS2, ?_⟩
          clear hK K hS qs
          have hS := hS2
          clear hS2 g
          try simp only [Act.put, List.setIfInBounds_toArray, List.set_cons_zero, List.set_cons_succ]
          refine gs_take (i := 5) (d := (some 45)) (v := ?_) rfl rfl (by kernel_rfl) (fun _ _ _ h => nomatch h.1) (by rfl) hS (fun w' hb' => ?_) ?_
          rotate_left
          · (try go_simp); (try with_reducible rfl)
          try simp only [Act.put, List.setIfInBounds_toArray, List.set_cons_zero, List.set_cons_succ]
          refine gs_take (i := 6) (d := (some 51)) (v := ?_) rfl rfl (by kernel_rfl) (fun _ _ _ h => nomatch h.1) (by rfl) hS (fun w' hb' => ?_) ?_
          rotate_left
          · (try go_simp); (try with_reducible rfl)
          try simp only [Act.put, List.setIfInBounds_toArray, List.set_cons_zero, List.set_cons_succ]
          refine gs_take (i := 7) (d := (some 52)) (v := ?_) rfl rfl (by kernel_rfl) (fun _ _ _ h => nomatch h.1) (by rfl) hS (fun w' hb' => ?_) ?_
          rotate_left
          · (try go_simp); (try with_reducible rfl)
          try simp only [Act.put, List.setIfInBounds_toArray, List.set_cons_zero, List.set_cons_succ]
          refine gs_take (i := 8) (d := (some 53)) (v := ?_) rfl rfl (by kernel_rfl) (fun _ _ _ h => nomatch h.1) (by rfl) hS (fun w' hb' => ?_) ?_
          rotate_left
          · (try go_simp); (try with_reducible rfl)
          try simp only [Act.put, List.setIfInBounds_toArray, List.set_cons_zero, List.set_cons_succ]
          refine gs_run (i := 10) rfl (by kernel_rfl) (by rfl) (fun K hK => ?_)
          refine wp_store_row (o := ⟨none, _, _, _, _, _⟩) 28 (.tmp 11) (.tmp 51) rfl B C rfl rfl _ zS qz (infoS hC) (zS_size.trans hC.symm) hone ?_
          obtain ⟨W9, hW9⟩ : ∃ X, X = World.setRow wt B C := ⟨_, rfl⟩
          rw [← hW9]
          have q9 : W9.heap[B]? = some (.cells C 28 (0, 0)) := by rw [hW9]; exact setRow_heap _ _ _ _ _ _ qz
          have R9 := Lib.hid (HT.out B nB hBC W9 (fun k hk hn => by rw [hW9]; exact (setRow_other _ _ _ _ hn)))
          have hS2 : Below w5.heap.size w5 W9 := by rw [hW9]; exact below_row hS nB C
          clear hW9
          refine hK _ _ ⟨hS2, ?_⟩
          clear hK K hS
          have hS := hS2
          clear hS2
          try simp only [Act.put, List.setIfInBounds_toArray, List.set_cons_zero, List.set_cons_succ]
          refine gs_take (i := 11) (d := (some 12)) (v := ?_) rfl rfl (by kernel_rfl) (fun _ _ _ h => nomatch h.1) (by rfl) hS (fun w' hb' => ?_) ?_
          rotate_left
          · (try go_simp); (try with_reducible rfl)
          try simp only [Act.put, List.setIfInBounds_toArray, List.set_cons_zero, List.set_cons_succ]
          refine gs_take (i := 12) (d := (some 13)) (v := ?_) rfl rfl (by kernel_rfl) (fun _ _ _ h => nomatch h.1) (by rfl) hS (fun w' hb' => ?_) ?_
          rotate_left
          · (try go_simp); (try with_reducible rfl)
          try simp only [Act.put, List.setIfInBounds_toArray, List.set_cons_zero, List.set_cons_succ]
          refine gs_done (by kernel_rfl) ?_
          refine ⟨rfl, (B, C, G), ?_, ?_⟩
          · simp only [List.foldl_cons, List.foldl_nil, Act.put, List.setIfInBounds_toArray, List.set_cons_zero, List.set_cons_succ]
          · exact ⟨q9, hC, R9, hS⟩
      · skip
        go_simp
        have g := (Below.refl (w47).heap.size (w47)).alloc (Nat.le_refl _) (.cells zS 28)
        have hS2 := hS.alloc hS.size (.cells zS 28)
        have qz := alloc_at hS (.cells zS 28)
        have nB := hS.size
        obtain ⟨Wz, hWz⟩ : ∃ Y, Y = World.alloc (w47) (.cells zS 28) := ⟨_, rfl⟩
        obtain ⟨B, hB⟩ : ∃ n, n = (w47).heap.size := ⟨_, rfl⟩
        rw [← hWz] at hS2 qz ⊢
        rw [← hB] at qz nB ⊢
        have hWt := g
        clear hWz hB
        refine hK _ _ ⟨hS2, ?_⟩
        clear hK K hS
        have hS := hS2
        clear hS2
        try simp only [Act.put, List.setIfInBounds_toArray, List.set_cons_zero, List.set_cons_succ]
        refine gs_run (i := 3) rfl (by kernel_rfl) (by rfl) (fun K hK => ?_)
        go_simp
        have g := (Below.refl (Wz).heap.size Wz).alloc (Nat.le_refl _) (.cells #[.string (ByteArray.mk #[99]), .int .i64 2, .int .i64 3, .string (str [])] 68)
        have hS2 := hS.alloc hS.size (.cells #[.string (ByteArray.mk #[99]), .int .i64 2, .int .i64 3, .string (str [])] 68)
        have qs := alloc_at hS (.cells #[.string (ByteArray.mk #[99]), .int .i64 2, .int .i64 3, .string (str [])] 68)
        replace qz := (g.block _ (lt_of_block qz)).trans qz
        obtain ⟨Ws, hWs⟩ : ∃ X, X = World.alloc Wz (.cells #[.string (ByteArray.mk #[99]), .int .i64 2, .int .i64 3, .string (str [])] 68) := ⟨_, rfl⟩
        obtain ⟨G, hG⟩ : ∃ n, n = (Wz).heap.size := ⟨_, rfl⟩
        rw [← hWs] at hS2 qs qz ⊢
        rw [← hG] at qs ⊢
        clear hWs hG g
        refine hK _ _ ⟨hS2, ?_⟩
        clear hK K hS
        have hS := hS2
        clear hS2
        try simp only [Act.put, List.setIfInBounds_toArray, List.set_cons_zero, List.set_cons_succ]
        refine gs_run (i := 4) rfl (by kernel_rfl) (by rfl) (fun K hK => ?_)
        go_simp
        refine (TK.out _ _ hS (rde_block ed2 (show (Ws).heap[G]? = some (.cells (ed2.flatMap edC).toArray 68 (0, 0)) from qs) (by decide))).mono ?_
        rintro e wt ⟨C, rfl, hC, hone, HT, g⟩
        have hBC : B < Ws.heap.size ∨ wt.heap.size ≤ B := .inl (lt_of_block qz)
        replace qz := (g.block _ (lt_of_block qz)).trans qz
        have hS2 := hS.trans (g.mono hS.size)
        refine hK _ _ ⟨hS2, ?_⟩
        clear hK K hS qs
        have hS := hS2
        clear hS2 g
        try simp only [Act.put, List.setIfInBounds_toArray, List.set_cons_zero, List.set_cons_succ]
        refine gs_take (i := 5) (d := (some 45)) (v := ?_) rfl rfl (by kernel_rfl) (fun _ _ _ h => nomatch h.1) (by rfl) hS (fun w' hb' => ?_) ?_
        rotate_left
        · (try go_simp); (try with_reducible rfl)
        try simp only [Act.put, List.setIfInBounds_toArray, List.set_cons_zero, List.set_cons_succ]
        refine gs_take (i := 6) (d := (some 51)) (v := ?_) rfl rfl (by kernel_rfl) (fun _ _ _ h => nomatch h.1) (by rfl) hS (fun w' hb' => ?_) ?_
        rotate_left
        · (try go_simp); (try with_reducible rfl)
        try simp only [Act.put, List.setIfInBounds_toArray, List.set_cons_zero, List.set_cons_succ]
        refine gs_take (i := 7) (d := (some 52)) (v := ?_) rfl rfl (by kernel_rfl) (fun _ _ _ h => nomatch h.1) (by rfl) hS (fun w' hb' => ?_) ?_
        rotate_left
        · (try go_simp); (try with_reducible rfl)
        try simp only [Act.put, List.setIfInBounds_toArray, List.set_cons_zero, List.set_cons_succ]
        refine gs_take (i := 8) (d := (some 53)) (v := ?_) rfl rfl (by kernel_rfl) (fun _ _ _ h => nomatch h.1) (by rfl) hS (fun w' hb' => ?_) ?_
        rotate_left
        · (try go_simp); (try with_reducible rfl)
        try simp only [Act.put, List.setIfInBounds_toArray, List.set_cons_zero, List.set_cons_succ]
        refine gs_run (i := 10) rfl (by kernel_rfl) (by rfl) (fun K hK => ?_)
        refine wp_store_row (o := ⟨none, _, _, _, _, _⟩) 28 (.tmp 11) (.tmp 51) rfl B C rfl rfl _ zS qz (infoS hC) (zS_size.trans hC.symm) hone ?_
        obtain ⟨W9, hW9⟩ : ∃ X, X = World.setRow wt B C := ⟨_, rfl⟩
        rw [← hW9]
        have q9 : W9.heap[B]? = some (.cells C 28 (0, 0)) := by rw [hW9]; exact setRow_heap _ _ _ _ _ _ qz
        have R9 := Lib.hid (HT.out B nB hBC W9 (fun k hk hn => by rw [hW9]; exact (setRow_other _ _ _ _ hn)))
        have hS2 : Below w5.heap.size w5 W9 := by rw [hW9]; exact below_row hS nB C
        clear hW9
        refine hK _ _ ⟨hS2, ?_⟩
        clear hK K hS
        have hS := hS2
        clear hS2
        try simp only [Act.put, List.setIfInBounds_toArray, List.set_cons_zero, List.set_cons_succ]
        refine gs_take (i := 11) (d := (some 12)) (v := ?_) rfl rfl (by kernel_rfl) (fun _ _ _ h => nomatch h.1) (by rfl) hS (fun w' hb' => ?_) ?_
        rotate_left
        · (try go_simp); (try with_reducible rfl)
        try simp only [Act.put, List.setIfInBounds_toArray, List.set_cons_zero, List.set_cons_succ]
        refine gs_take (i := 12) (d := (some 13)) (v := ?_) rfl rfl (by kernel_rfl) (fun _ _ _ h => nomatch h.1) (by rfl) hS (fun w' hb' => ?_) ?_
        rotate_left
        · (try go_simp); (try with_reducible rfl)
        try simp only [Act.put, List.setIfInBounds_toArray, List.set_cons_zero, List.set_cons_succ]
        refine gs_done (by kernel_rfl) ?_
        refine ⟨rfl, (B, C, G), ?_, ?_⟩
        · simp only [List.foldl_cons, List.foldl_nil, Act.put, List.setIfInBounds_toArray, List.set_cons_zero, List.set_cons_succ]
        · exact ⟨q9, hC, R9, hS⟩
    · skip
      go_simp
      have g := (Below.refl (W0).heap.size (W0)).alloc (Nat.le_refl _) (.cells zS 28)
      have hS2 := hS.alloc hS.size (.cells zS 28)
      have qz := alloc_at hS (.cells zS 28)
      have nB := hS.size
      obtain ⟨Wz, hWz⟩ : ∃ Y, Y = World.alloc (W0) (.cells zS 28) := ⟨_, rfl⟩
      obtain ⟨B, hB⟩ : ∃ n, n = (W0).heap.size := ⟨_, rfl⟩
      rw [← hWz] at hS2 qz ⊢
      rw [← hB] at qz nB ⊢
      have hWt := g
      clear hWz hB
      refine hK _ _ ⟨hS2, ?_⟩
      clear hK K hS
      have hS := hS2
      clear hS2
      try simp only [Act.put, List.setIfInBounds_toArray, List.set_cons_zero, List.set_cons_succ]
      refine gs_run (i := 1) rfl (by kernel_rfl) (by rfl) (fun K hK => ?_)
      go_simp
      refine (I3.out _).mono ?_
      rintro e w47 ⟨rfl, g⟩
      replace qz := (g.block _ (lt_of_block qz)).trans qz
      have hS2 := hS.trans (g.mono hS.size)
      refine hK _ _ ⟨hS2, ?_⟩
      clear hK K g hS
      have hS := hS2
      clear hS2
      try simp only [Act.put, List.setIfInBounds_toArray, List.set_cons_zero, List.set_cons_succ]
      refine gs_take (i := 2) (d := (some 48)) (v := ?_) rfl rfl (by kernel_rfl) (fun _ _ _ h => nomatch h.1) (by rfl) hS (fun w' hb' => ?_) ?_
      rotate_left
      · (try go_simp); (try with_reducible rfl)
      try simp only [Act.put, List.setIfInBounds_toArray, List.set_cons_zero, List.set_cons_succ]
      refine gs_run (i := 3) rfl (by kernel_rfl) (by rfl) (fun K hK => ?_)
      go_simp
      have g := (Below.refl (w47).heap.size w47).alloc (Nat.le_refl _) (.cells #[.string (ByteArray.mk #[99]), .int .i64 2, .int .i64 3, .string (str [])] 68)
      have hS2 := hS.alloc hS.size (.cells #[.string (ByteArray.mk #[99]), .int .i64 2, .int .i64 3, .string (str [])] 68)
      have qs := alloc_at hS (.cells #[.string (ByteArray.mk #[99]), .int .i64 2, .int .i64 3, .string (str [])] 68)
      replace qz := (g.block _ (lt_of_block qz)).trans qz
      obtain ⟨Ws, hWs⟩ : ∃ X, X = World.alloc w47 (.cells #[.string (ByteArray.mk #[99]), .int .i64 2, .int .i64 3, .string (str [])] 68) := ⟨_, rfl⟩
      obtain ⟨G, hG⟩ : ∃ n, n = (w47).heap.size := ⟨_, rfl⟩
      rw [← hWs] at hS2 qs qz ⊢
      rw [← hG] at qs ⊢
      clear hWs hG g
      refine hK _ _ ⟨hS2, ?_⟩
      clear hK K hS
      have hS := hS2
      clear hS2
      try simp only [Act.put, List.setIfInBounds_toArray, List.set_cons_zero, List.set_cons_succ]
      refine gs_run (i := 4) rfl (by kernel_rfl) (by rfl) (fun K hK => ?_)
      go_simp
      refine (TK.out _ _ hS (rde_block ed2 (show (Ws).heap[G]? = some (.cells (ed2.flatMap edC).toArray 68 (0, 0)) from qs) (by decide))).mono ?_
      rintro e wt ⟨C, rfl, hC, hone, HT, g⟩
      have hBC : B < Ws.heap.size ∨ wt.heap.size ≤ B := .inl (lt_of_block qz)
      replace qz := (g.block _ (lt_of_block qz)).trans qz
      have hS2 := hS.trans (g.mono hS.size)
      refine hK _ _ ⟨hS2, ?_⟩
      clear hK K hS qs
      have hS := hS2
      clear hS2 g
      try simp only [Act.put, List.setIfInBounds_toArray, List.set_cons_zero, List.set_cons_succ]
      refine gs_take (i := 5) (d := (some 45)) (v := ?_) rfl rfl (by kernel_rfl) (fun _ _ _ h => nomatch h.1) (by rfl) hS (fun w' hb' => ?_) ?_
      rotate_left
      · (try go_simp); (try with_reducible rfl)
      try simp only [Act.put, List.setIfInBounds_toArray, List.set_cons_zero, List.set_cons_succ]
      refine gs_take (i := 6) (d := (some 51)) (v := ?_) rfl rfl (by kernel_rfl) (fun _ _ _ h => nomatch h.1) (by rfl) hS (fun w' hb' => ?_) ?_
      rotate_left
      · (try go_simp); (try with_reducible rfl)
      try simp only [Act.put, List.setIfInBounds_toArray, List.set_cons_zero, List.set_cons_succ]
      refine gs_take (i := 7) (d := (some 52)) (v := ?_) rfl rfl (by kernel_rfl) (fun _ _ _ h => nomatch h.1) (by rfl) hS (fun w' hb' => ?_) ?_
      rotate_left
      · (try go_simp); (try with_reducible rfl)
      try simp only [Act.put, List.setIfInBounds_toArray, List.set_cons_zero, List.set_cons_succ]
      refine gs_take (i := 8) (d := (some 53)) (v := ?_) rfl rfl (by kernel_rfl) (fun _ _ _ h => nomatch h.1) (by rfl) hS (fun w' hb' => ?_) ?_
      rotate_left
      · (try go_simp); (try with_reducible rfl)
      try simp only [Act.put, List.setIfInBounds_toArray, List.set_cons_zero, List.set_cons_succ]
      refine gs_run (i := 10) rfl (by kernel_rfl) (by rfl) (fun K hK => ?_)
      refine wp_store_row (o := ⟨none, _, _, _, _, _⟩) 28 (.tmp 11) (.tmp 51) rfl B C rfl rfl _ zS qz (infoS hC) (zS_size.trans hC.symm) hone ?_
      obtain ⟨W9, hW9⟩ : ∃ X, X = World.setRow wt B C := ⟨_, rfl⟩
      rw [← hW9]
      have q9 : W9.heap[B]? = some (.cells C 28 (0, 0)) := by rw [hW9]; exact setRow_heap _ _ _ _ _ _ qz
      have R9 := Lib.hid (HT.out B nB hBC W9 (fun k hk hn => by rw [hW9]; exact (setRow_other _ _ _ _ hn)))
      have hS2 : Below w5.heap.size w5 W9 := by rw [hW9]; exact below_row hS nB C
      clear hW9
      refine hK _ _ ⟨hS2, ?_⟩
      clear hK K hS
      have hS := hS2
      clear hS2
      try simp only [Act.put, List.setIfInBounds_toArray, List.set_cons_zero, List.set_cons_succ]
      refine gs_take (i := 11) (d := (some 12)) (v := ?_) rfl rfl (by kernel_rfl) (fun _ _ _ h => nomatch h.1) (by rfl) hS (fun w' hb' => ?_) ?_
      rotate_left
      · (try go_simp); (try with_reducible rfl)
      try simp only [Act.put, List.setIfInBounds_toArray, List.set_cons_zero, List.set_cons_succ]
      refine gs_take (i := 12) (d := (some 13)) (v := ?_) rfl rfl (by kernel_rfl) (fun _ _ _ h => nomatch h.1) (by rfl) hS (fun w' hb' => ?_) ?_
      rotate_left
      · (try go_simp); (try with_reducible rfl)
      try simp only [Act.put, List.setIfInBounds_toArray, List.set_cons_zero, List.set_cons_succ]
      refine gs_done (by kernel_rfl) ?_
      refine ⟨rfl, (B, C, G), ?_, ?_⟩
      · simp only [List.foldl_cons, List.foldl_nil, Act.put, List.setIfInBounds_toArray, List.set_cons_zero, List.set_cons_succ]
      · exact ⟨q9, hC, R9, hS⟩
  rintro ⟨B5, C5, G5⟩ y5 ⟨-, -, -, g5⟩
  simp only [List.foldl_cons, List.foldl_nil, Act.put, List.setIfInBounds_toArray, List.set_cons_zero, List.set_cons_succ]
  replace q3 := (g5.block _ (lt_of_block q3)).trans q3
  replace q6 := (g5.block _ (lt_of_block q6)).trans q6
  have RB := Lib.hid (RA.out.below g5 (Nat.le_refl _))
  have Y6 := Lib.hid (chain Y5.out g5)
  clear TK RA Y5 g5
  have TK := Lib.hid (fun (v : Value) (W : World) (g : Below y5.heap.size y5 W) (h : RdE W v ed3) => (show Calls Tryd.prog 34 #[.agg C3, v] W (TakeR y5.heap.size W 0 0 wsB) from take_rd RB.out g (TAB.out.below (chain Y6.out g)) szA wfA (WfS_len mayA) h szD3 wfD3 tk3))
  go_wp2_with fail
  refine region_puts_of (fun j : Nat × Array Value × Nat => [(some 55, .agg C3), (some 57, .agg #[.int .i64 2, .int .i64 3, .string (str [])]), (some 56, .agg #[.string (ByteArray.mk #[97]), .int .i64 0, .int .i64 0, .string (ByteArray.mk #[])]), (some 58, .agg #[.string (ByteArray.mk #[99]), .int .i64 2, .int .i64 3, .string (str [])]), (some 59, .slice (some ⟨j.2.2, 0, none⟩) 2 2), (some 60, .tuple #[.agg j.2.1, .int .i64 0, .int .i64 0]), (some 54, .tuple #[.agg j.2.1, .int .i64 0, .int .i64 0]), (some 61, .agg j.2.1), (some 62, .int .i64 0), (some 63, .int .i64 0), (some 14, .pointer (some ⟨j.1, 0, none⟩)), (some 15, .int .i64 0), (some 16, .int .i64 0)]) (fun j y => y.heap[j.1]? = some (.cells j.2.1 28 (0, 0)) ∧ j.2.1.size = 35 ∧ Hid (RdS y j.2.1 wsB) ∧ Below y5.heap.size y5 y) ?_ ?_
  · have hS : Below y5.heap.size y5 y5.drew := (Below.refl _ _).drew
    refine gs_start (S := (fun W => Below y5.heap.size y5 W)) (by kernel_rfl) ?_
    obtain ⟨W0, hW0⟩ : ∃ X, X = y5.drew := ⟨_, rfl⟩
    rw [← hW0] at hS ⊢
    clear hW0
    refine gs_take (i := 0) (d := (some 55)) (v := ?_) rfl rfl (by kernel_rfl) (fun _ _ _ h => nomatch h.1) (by rfl) hS (fun w' hb' => ?_) ?_
    rotate_left
    · (refine load_row_op _ _ (.tmp 3) ?_ ?_ ((hb'.block _ (lt_of_block q3)).trans q3) Tryd.underlying28 ?_ (infoS hC3) <;> rfl); (try go_simp); (try with_reducible rfl)
    try simp only [Act.put, List.setIfInBounds_toArray, List.set_cons_zero, List.set_cons_succ]
    refine gs_take (i := 1) (d := (some 56)) (v := ?_) rfl rfl (by kernel_rfl) (fun _ _ _ h => nomatch h.1) (by rfl) hS (fun w' hb' => ?_) ?_
    rotate_left
    · (try go_simp); (try with_reducible rfl)
    try simp only [Act.put, List.setIfInBounds_toArray, List.set_cons_zero, List.set_cons_succ]
    refine gs_run2 (i := 2) (k := 10) rfl rfl (by kernel_rfl) (by rfl) (by rfl) (fun K hK => ?_) (fun K hK => ?_)
    · skip
      go_simp
      refine (I3.out _).mono ?_
      rintro e w57 ⟨rfl, g⟩
      have hS2 := hS.trans (g.mono hS.size)
      refine hK _ _ ⟨hS2, ?_⟩
      clear hK K g hS
      have hS := hS2
      clear hS2
      try simp only [Act.put, List.setIfInBounds_toArray, List.set_cons_zero, List.set_cons_succ]
      refine gs_take (i := 3) (d := (some 58)) (v := ?_) rfl rfl (by kernel_rfl) (fun _ _ _ h => nomatch h.1) (by rfl) hS (fun w' hb' => ?_) ?_
      rotate_left
      · (try go_simp); (try with_reducible rfl)
      try simp only [Act.put, List.setIfInBounds_toArray, List.set_cons_zero, List.set_cons_succ]
      refine gs_run2 (i := 4) (k := 10) rfl rfl (by kernel_rfl) (by rfl) (by rfl) (fun K hK => ?_) (fun K hK => ?_)
      · skip
        go_simp
        have g := (Below.refl (w57).heap.size w57).alloc (Nat.le_refl _) (.cells #[.string (ByteArray.mk #[97]), .int .i64 0, .int .i64 0, .string (ByteArray.mk #[]), .string (ByteArray.mk #[99]), .int .i64 2, .int .i64 3, .string (str [])] 68)
        have hS2 := hS.alloc hS.size (.cells #[.string (ByteArray.mk #[97]), .int .i64 0, .int .i64 0, .string (ByteArray.mk #[]), .string (ByteArray.mk #[99]), .int .i64 2, .int .i64 3, .string (str [])] 68)
        have qs := alloc_at hS (.cells #[.string (ByteArray.mk #[97]), .int .i64 0, .int .i64 0, .string (ByteArray.mk #[]), .string (ByteArray.mk #[99]), .int .i64 2, .int .i64 3, .string (str [])] 68)
        obtain ⟨Ws, hWs⟩ : ∃ X, X = World.alloc w57 (.cells #[.string (ByteArray.mk #[97]), .int .i64 0, .int .i64 0, .string (ByteArray.mk #[]), .string (ByteArray.mk #[99]), .int .i64 2, .int .i64 3, .string (str [])] 68) := ⟨_, rfl⟩
        obtain ⟨G, hG⟩ : ∃ n, n = (w57).heap.size := ⟨_, rfl⟩
        rw [← hWs] at hS2 qs ⊢
        rw [← hG] at qs ⊢
        clear hWs hG g
        refine hK _ _ ⟨hS2, ?_⟩
        clear hK K hS
        have hS := hS2
        clear hS2
        try simp only [Act.put, List.setIfInBounds_toArray, List.set_cons_zero, List.set_cons_succ]
        refine gs_run2 (i := 5) (k := 10) rfl rfl (by kernel_rfl) (by rfl) (by rfl) (fun K hK => ?_) (fun K hK => ?_)
        · skip
          go_simp
          refine (TK.out _ _ hS (rde_block ed3 (show (Ws).heap[G]? = some (.cells (ed3.flatMap edC).toArray 68 (0, 0)) from qs) (by decide))).mono ?_
          rintro e wt ⟨C, rfl, hC, hone, HT, g⟩
          have hS2 := hS.trans (g.mono hS.size)
          refine hK _ _ ⟨hS2, ?_⟩
          clear hK K hS qs
          have hS := hS2
          clear hS2
          try simp only [Act.put, List.setIfInBounds_toArray, List.set_cons_zero, List.set_cons_succ]
          refine gs_take (i := 6) (d := (some 54)) (v := ?_) rfl rfl (by kernel_rfl) (fun _ _ _ h => nomatch h.1) (by rfl) hS (fun w' hb' => ?_) ?_
          rotate_left
          · (try go_simp); (try with_reducible rfl)
          try simp only [Act.put, List.setIfInBounds_toArray, List.set_cons_zero, List.set_cons_succ]
          refine gs_take (i := 7) (d := (some 61)) (v := ?_) rfl rfl (by kernel_rfl) (fun _ _ _ h => nomatch h.1) (by rfl) hS (fun w' hb' => ?_) ?_
          rotate_left
          · (try go_simp); (try with_reducible rfl)
          try simp only [Act.put, List.setIfInBounds_toArray, List.set_cons_zero, List.set_cons_succ]
          refine gs_take (i := 8) (d := (some 62)) (v := ?_) rfl rfl (by kernel_rfl) (fun _ _ _ h => nomatch h.1) (by rfl) hS (fun w' hb' => ?_) ?_
          rotate_left
          · (try go_simp); (try with_reducible rfl)
          try simp only [Act.put, List.setIfInBounds_toArray, List.set_cons_zero, List.set_cons_succ]
          refine gs_take (i := 9) (d := (some 63)) (v := ?_) rfl rfl (by kernel_rfl) (fun _ _ _ h => nomatch h.1) (by rfl) hS (fun w' hb' => ?_) ?_
          rotate_left
          · (try go_simp); (try with_reducible rfl)
          try simp only [Act.put, List.setIfInBounds_toArray, List.set_cons_zero, List.set_cons_succ]
          refine gs_run (i := 10) rfl (by kernel_rfl) (by rfl) (fun K hK => ?_)
          go_simp
          have g := (Below.refl (wt).heap.size (wt)).alloc (Nat.le_refl _) (.cells zS 28)
          have hS2 := hS.alloc hS.size (.cells zS 28)
          have qz := alloc_at hS (.cells zS 28)
          have nB := hS.size
          obtain ⟨Wz, hWz⟩ : ∃ Y, Y = World.alloc (wt) (.cells zS 28) := ⟨_, rfl⟩
          obtain ⟨B, hB⟩ : ∃ n, n = (wt).heap.size := ⟨_, rfl⟩
          rw [← hWz] at hS2 qz g ⊢
          rw [← hB] at qz nB ⊢
          have hBC : B < Ws.heap.size ∨ wt.heap.size ≤ B := .inr (by rw [hB]; exact Nat.le_refl _)
          have hWt := g
          clear hWz hB
          refine hK _ _ ⟨hS2, ?_⟩
          clear hK K hS
          have hS := hS2
          clear hS2
          try simp only [Act.put, List.setIfInBounds_toArray, List.set_cons_zero, List.set_cons_succ]
          refine gs_run (i := 11) rfl (by kernel_rfl) (by rfl) (fun K hK => ?_)
          refine wp_store_row (o := ⟨none, _, _, _, _, _⟩) 28 (.tmp 14) (.tmp 61) rfl B C rfl rfl _ zS qz (infoS hC) (zS_size.trans hC.symm) hone ?_
          obtain ⟨W9, hW9⟩ : ∃ X, X = World.setRow Wz B C := ⟨_, rfl⟩
          rw [← hW9]
          have q9 : W9.heap[B]? = some (.cells C 28 (0, 0)) := by rw [hW9]; exact setRow_heap _ _ _ _ _ _ qz
          have R9 := Lib.hid (HT.out B nB hBC W9 (fun k hk hn => by rw [hW9]; exact (setRow_other _ _ _ _ hn).trans (hWt.block k hk)))
          have hS2 : Below y5.heap.size y5 W9 := by rw [hW9]; exact below_row hS nB C
          clear hW9
          refine hK _ _ ⟨hS2, ?_⟩
          clear hK K hS
          have hS := hS2
          clear hS2
          try simp only [Act.put, List.setIfInBounds_toArray, List.set_cons_zero, List.set_cons_succ]
          refine gs_take (i := 12) (d := (some 15)) (v := ?_) rfl rfl (by kernel_rfl) (fun _ _ _ h => nomatch h.1) (by rfl) hS (fun w' hb' => ?_) ?_
          rotate_left
          · (try go_simp); (try with_reducible rfl)
          try simp only [Act.put, List.setIfInBounds_toArray, List.set_cons_zero, List.set_cons_succ]
          refine gs_take (i := 13) (d := (some 16)) (v := ?_) rfl rfl (by kernel_rfl) (fun _ _ _ h => nomatch h.1) (by rfl) hS (fun w' hb' => ?_) ?_
          rotate_left
          · (try go_simp); (try with_reducible rfl)
          try simp only [Act.put, List.setIfInBounds_toArray, List.set_cons_zero, List.set_cons_succ]
          refine gs_done (by kernel_rfl) ?_
          refine ⟨rfl, (B, C, G), ?_, ?_⟩
          · simp only [List.foldl_cons, List.foldl_nil, Act.put, List.setIfInBounds_toArray, List.set_cons_zero, List.set_cons_succ]
          · exact ⟨q9, hC, R9, hS⟩
        · skip
          go_simp
          have g := (Below.refl (Ws).heap.size (Ws)).alloc (Nat.le_refl _) (.cells zS 28)
          have hS2 := hS.alloc hS.size (.cells zS 28)
          have qz := alloc_at hS (.cells zS 28)
          have nB := hS.size
          replace qs := (g.block _ (lt_of_block qs)).trans qs
          obtain ⟨Wz, hWz⟩ : ∃ Y, Y = World.alloc (Ws) (.cells zS 28) := ⟨_, rfl⟩
          obtain ⟨B, hB⟩ : ∃ n, n = (Ws).heap.size := ⟨_, rfl⟩
          rw [← hWz] at hS2 qz qs ⊢
          rw [← hB] at qz nB ⊢
          have hWt := g
          clear hWz hB
          refine hK _ _ ⟨hS2, ?_⟩
          clear hK K hS
          have hS := hS2
          clear hS2
          try simp only [Act.put, List.setIfInBounds_toArray, List.set_cons_zero, List.set_cons_succ]
          refine gs_run (i := 5) rfl (by kernel_rfl) (by rfl) (fun K hK => ?_)
          go_simp
          refine (TK.out _ _ hS (rde_block ed3 (show (Wz).heap[G]? = some (.cells (ed3.flatMap edC).toArray 68 (0, 0)) from qs) (by decide))).mono ?_
          rintro e wt ⟨C, rfl, hC, hone, HT, g⟩
          have hBC : B < Wz.heap.size ∨ wt.heap.size ≤ B := .inl (lt_of_block qz)
          replace qz := (g.block _ (lt_of_block qz)).trans qz
          have hS2 := hS.trans (g.mono hS.size)
          refine hK _ _ ⟨hS2, ?_⟩
          clear hK K hS qs
          have hS := hS2
          clear hS2 g
          try simp only [Act.put, List.setIfInBounds_toArray, List.set_cons_zero, List.set_cons_succ]
          refine gs_take (i := 6) (d := (some 54)) (v := ?_) rfl rfl (by kernel_rfl) (fun _ _ _ h => nomatch h.1) (by rfl) hS (fun w' hb' => ?_) ?_
          rotate_left
          · (try go_simp); (try with_reducible rfl)
          try simp only [Act.put, List.setIfInBounds_toArray, List.set_cons_zero, List.set_cons_succ]
          refine gs_take (i := 7) (d := (some 61)) (v := ?_) rfl rfl (by kernel_rfl) (fun _ _ _ h => nomatch h.1) (by rfl) hS (fun w' hb' => ?_) ?_
          rotate_left
          · (try go_simp); (try with_reducible rfl)
          try simp only [Act.put, List.setIfInBounds_toArray, List.set_cons_zero, List.set_cons_succ]
          refine gs_take (i := 8) (d := (some 62)) (v := ?_) rfl rfl (by kernel_rfl) (fun _ _ _ h => nomatch h.1) (by rfl) hS (fun w' hb' => ?_) ?_
          rotate_left
          · (try go_simp); (try with_reducible rfl)
          try simp only [Act.put, List.setIfInBounds_toArray, List.set_cons_zero, List.set_cons_succ]
          refine gs_take (i := 9) (d := (some 63)) (v := ?_) rfl rfl (by kernel_rfl) (fun _ _ _ h => nomatch h.1) (by rfl) hS (fun w' hb' => ?_) ?_
          rotate_left
          · (try go_simp); (try with_reducible rfl)
          try simp only [Act.put, List.setIfInBounds_toArray, List.set_cons_zero, List.set_cons_succ]
          refine gs_run (i := 11) rfl (by kernel_rfl) (by rfl) (fun K hK => ?_)
          refine wp_store_row (o := ⟨none, _, _, _, _, _⟩) 28 (.tmp 14) (.tmp 61) rfl B C rfl rfl _ zS qz (infoS hC) (zS_size.trans hC.symm) hone ?_
          obtain ⟨W9, hW9⟩ : ∃ X, X = World.setRow wt B C := ⟨_, rfl⟩
          rw [← hW9]
          have q9 : W9.heap[B]? = some (.cells C 28 (0, 0)) := by rw [hW9]; exact setRow_heap _ _ _ _ _ _ qz
          have R9 := Lib.hid (HT.out B nB hBC W9 (fun k hk hn => by rw [hW9]; exact (setRow_other _ _ _ _ hn)))
          have hS2 : Below y5.heap.size y5 W9 := by rw [hW9]; exact below_row hS nB C
          clear hW9
          refine hK _ _ ⟨hS2, ?_⟩
          clear hK K hS
          have hS := hS2
          clear hS2
          try simp only [Act.put, List.setIfInBounds_toArray, List.set_cons_zero, List.set_cons_succ]
          refine gs_take (i := 12) (d := (some 15)) (v := ?_) rfl rfl (by kernel_rfl) (fun _ _ _ h => nomatch h.1) (by rfl) hS (fun w' hb' => ?_) ?_
          rotate_left
          · (try go_simp); (try with_reducible rfl)
          try simp only [Act.put, List.setIfInBounds_toArray, List.set_cons_zero, List.set_cons_succ]
          refine gs_take (i := 13) (d := (some 16)) (v := ?_) rfl rfl (by kernel_rfl) (fun _ _ _ h => nomatch h.1) (by rfl) hS (fun w' hb' => ?_) ?_
          rotate_left
          · (try go_simp); (try with_reducible rfl)
          try simp only [Act.put, List.setIfInBounds_toArray, List.set_cons_zero, List.set_cons_succ]
          refine gs_done (by kernel_rfl) ?_
          refine ⟨rfl, (B, C, G), ?_, ?_⟩
          · simp only [List.foldl_cons, List.foldl_nil, Act.put, List.setIfInBounds_toArray, List.set_cons_zero, List.set_cons_succ]
          · exact ⟨q9, hC, R9, hS⟩
      · skip
        go_simp
        have g := (Below.refl (w57).heap.size (w57)).alloc (Nat.le_refl _) (.cells zS 28)
        have hS2 := hS.alloc hS.size (.cells zS 28)
        have qz := alloc_at hS (.cells zS 28)
        have nB := hS.size
        obtain ⟨Wz, hWz⟩ : ∃ Y, Y = World.alloc (w57) (.cells zS 28) := ⟨_, rfl⟩
        obtain ⟨B, hB⟩ : ∃ n, n = (w57).heap.size := ⟨_, rfl⟩
        rw [← hWz] at hS2 qz ⊢
        rw [← hB] at qz nB ⊢
        have hWt := g
        clear hWz hB
        refine hK _ _ ⟨hS2, ?_⟩
        clear hK K hS
        have hS := hS2
        clear hS2
        try simp only [Act.put, List.setIfInBounds_toArray, List.set_cons_zero, List.set_cons_succ]
        refine gs_run (i := 4) rfl (by kernel_rfl) (by rfl) (fun K hK => ?_)
        go_simp
        have g := (Below.refl (Wz).heap.size Wz).alloc (Nat.le_refl _) (.cells #[.string (ByteArray.mk #[97]), .int .i64 0, .int .i64 0, .string (ByteArray.mk #[]), .string (ByteArray.mk #[99]), .int .i64 2, .int .i64 3, .string (str [])] 68)
        have hS2 := hS.alloc hS.size (.cells #[.string (ByteArray.mk #[97]), .int .i64 0, .int .i64 0, .string (ByteArray.mk #[]), .string (ByteArray.mk #[99]), .int .i64 2, .int .i64 3, .string (str [])] 68)
        have qs := alloc_at hS (.cells #[.string (ByteArray.mk #[97]), .int .i64 0, .int .i64 0, .string (ByteArray.mk #[]), .string (ByteArray.mk #[99]), .int .i64 2, .int .i64 3, .string (str [])] 68)
        replace qz := (g.block _ (lt_of_block qz)).trans qz
        obtain ⟨Ws, hWs⟩ : ∃ X, X = World.alloc Wz (.cells #[.string (ByteArray.mk #[97]), .int .i64 0, .int .i64 0, .string (ByteArray.mk #[]), .string (ByteArray.mk #[99]), .int .i64 2, .int .i64 3, .string (str [])] 68) := ⟨_, rfl⟩
        obtain ⟨G, hG⟩ : ∃ n, n = (Wz).heap.size := ⟨_, rfl⟩
        rw [← hWs] at hS2 qs qz ⊢
        rw [← hG] at qs ⊢
        clear hWs hG g
        refine hK _ _ ⟨hS2, ?_⟩
        clear hK K hS
        have hS := hS2
        clear hS2
        try simp only [Act.put, List.setIfInBounds_toArray, List.set_cons_zero, List.set_cons_succ]
        refine gs_run (i := 5) rfl (by kernel_rfl) (by rfl) (fun K hK => ?_)
        go_simp
        refine (TK.out _ _ hS (rde_block ed3 (show (Ws).heap[G]? = some (.cells (ed3.flatMap edC).toArray 68 (0, 0)) from qs) (by decide))).mono ?_
        rintro e wt ⟨C, rfl, hC, hone, HT, g⟩
        have hBC : B < Ws.heap.size ∨ wt.heap.size ≤ B := .inl (lt_of_block qz)
        replace qz := (g.block _ (lt_of_block qz)).trans qz
        have hS2 := hS.trans (g.mono hS.size)
        refine hK _ _ ⟨hS2, ?_⟩
        clear hK K hS qs
        have hS := hS2
        clear hS2 g
        try simp only [Act.put, List.setIfInBounds_toArray, List.set_cons_zero, List.set_cons_succ]
        refine gs_take (i := 6) (d := (some 54)) (v := ?_) rfl rfl (by kernel_rfl) (fun _ _ _ h => nomatch h.1) (by rfl) hS (fun w' hb' => ?_) ?_
        rotate_left
        · (try go_simp); (try with_reducible rfl)
        try simp only [Act.put, List.setIfInBounds_toArray, List.set_cons_zero, List.set_cons_succ]
        refine gs_take (i := 7) (d := (some 61)) (v := ?_) rfl rfl (by kernel_rfl) (fun _ _ _ h => nomatch h.1) (by rfl) hS (fun w' hb' => ?_) ?_
        rotate_left
        · (try go_simp); (try with_reducible rfl)
        try simp only [Act.put, List.setIfInBounds_toArray, List.set_cons_zero, List.set_cons_succ]
        refine gs_take (i := 8) (d := (some 62)) (v := ?_) rfl rfl (by kernel_rfl) (fun _ _ _ h => nomatch h.1) (by rfl) hS (fun w' hb' => ?_) ?_
        rotate_left
        · (try go_simp); (try with_reducible rfl)
        try simp only [Act.put, List.setIfInBounds_toArray, List.set_cons_zero, List.set_cons_succ]
        refine gs_take (i := 9) (d := (some 63)) (v := ?_) rfl rfl (by kernel_rfl) (fun _ _ _ h => nomatch h.1) (by rfl) hS (fun w' hb' => ?_) ?_
        rotate_left
        · (try go_simp); (try with_reducible rfl)
        try simp only [Act.put, List.setIfInBounds_toArray, List.set_cons_zero, List.set_cons_succ]
        refine gs_run (i := 11) rfl (by kernel_rfl) (by rfl) (fun K hK => ?_)
        refine wp_store_row (o := ⟨none, _, _, _, _, _⟩) 28 (.tmp 14) (.tmp 61) rfl B C rfl rfl _ zS qz (infoS hC) (zS_size.trans hC.symm) hone ?_
        obtain ⟨W9, hW9⟩ : ∃ X, X = World.setRow wt B C := ⟨_, rfl⟩
        rw [← hW9]
        have q9 : W9.heap[B]? = some (.cells C 28 (0, 0)) := by rw [hW9]; exact setRow_heap _ _ _ _ _ _ qz
        have R9 := Lib.hid (HT.out B nB hBC W9 (fun k hk hn => by rw [hW9]; exact (setRow_other _ _ _ _ hn)))
        have hS2 : Below y5.heap.size y5 W9 := by rw [hW9]; exact below_row hS nB C
        clear hW9
        refine hK _ _ ⟨hS2, ?_⟩
        clear hK K hS
        have hS := hS2
        clear hS2
        try simp only [Act.put, List.setIfInBounds_toArray, List.set_cons_zero, List.set_cons_succ]
        refine gs_take (i := 12) (d := (some 15)) (v := ?_) rfl rfl (by kernel_rfl) (fun _ _ _ h => nomatch h.1) (by rfl) hS (fun w' hb' => ?_) ?_
        rotate_left
        · (try go_simp); (try with_reducible rfl)
        try simp only [Act.put, List.setIfInBounds_toArray, List.set_cons_zero, List.set_cons_succ]
        refine gs_take (i := 13) (d := (some 16)) (v := ?_) rfl rfl (by kernel_rfl) (fun _ _ _ h => nomatch h.1) (by rfl) hS (fun w' hb' => ?_) ?_
        rotate_left
        · (try go_simp); (try with_reducible rfl)
        try simp only [Act.put, List.setIfInBounds_toArray, List.set_cons_zero, List.set_cons_succ]
        refine gs_done (by kernel_rfl) ?_
        refine ⟨rfl, (B, C, G), ?_, ?_⟩
        · simp only [List.foldl_cons, List.foldl_nil, Act.put, List.setIfInBounds_toArray, List.set_cons_zero, List.set_cons_succ]
        · exact ⟨q9, hC, R9, hS⟩
    · skip
      go_simp
      have g := (Below.refl (W0).heap.size (W0)).alloc (Nat.le_refl _) (.cells zS 28)
      have hS2 := hS.alloc hS.size (.cells zS 28)
      have qz := alloc_at hS (.cells zS 28)
      have nB := hS.size
      obtain ⟨Wz, hWz⟩ : ∃ Y, Y = World.alloc (W0) (.cells zS 28) := ⟨_, rfl⟩
      obtain ⟨B, hB⟩ : ∃ n, n = (W0).heap.size := ⟨_, rfl⟩
      rw [← hWz] at hS2 qz ⊢
      rw [← hB] at qz nB ⊢
      have hWt := g
      clear hWz hB
      refine hK _ _ ⟨hS2, ?_⟩
      clear hK K hS
      have hS := hS2
      clear hS2
      try simp only [Act.put, List.setIfInBounds_toArray, List.set_cons_zero, List.set_cons_succ]
      refine gs_run (i := 2) rfl (by kernel_rfl) (by rfl) (fun K hK => ?_)
      go_simp
      refine (I3.out _).mono ?_
      rintro e w57 ⟨rfl, g⟩
      replace qz := (g.block _ (lt_of_block qz)).trans qz
      have hS2 := hS.trans (g.mono hS.size)
      refine hK _ _ ⟨hS2, ?_⟩
      clear hK K g hS
      have hS := hS2
      clear hS2
      try simp only [Act.put, List.setIfInBounds_toArray, List.set_cons_zero, List.set_cons_succ]
      refine gs_take (i := 3) (d := (some 58)) (v := ?_) rfl rfl (by kernel_rfl) (fun _ _ _ h => nomatch h.1) (by rfl) hS (fun w' hb' => ?_) ?_
      rotate_left
      · (try go_simp); (try with_reducible rfl)
      try simp only [Act.put, List.setIfInBounds_toArray, List.set_cons_zero, List.set_cons_succ]
      refine gs_run (i := 4) rfl (by kernel_rfl) (by rfl) (fun K hK => ?_)
      go_simp
      have g := (Below.refl (w57).heap.size w57).alloc (Nat.le_refl _) (.cells #[.string (ByteArray.mk #[97]), .int .i64 0, .int .i64 0, .string (ByteArray.mk #[]), .string (ByteArray.mk #[99]), .int .i64 2, .int .i64 3, .string (str [])] 68)
      have hS2 := hS.alloc hS.size (.cells #[.string (ByteArray.mk #[97]), .int .i64 0, .int .i64 0, .string (ByteArray.mk #[]), .string (ByteArray.mk #[99]), .int .i64 2, .int .i64 3, .string (str [])] 68)
      have qs := alloc_at hS (.cells #[.string (ByteArray.mk #[97]), .int .i64 0, .int .i64 0, .string (ByteArray.mk #[]), .string (ByteArray.mk #[99]), .int .i64 2, .int .i64 3, .string (str [])] 68)
      replace qz := (g.block _ (lt_of_block qz)).trans qz
      obtain ⟨Ws, hWs⟩ : ∃ X, X = World.alloc w57 (.cells #[.string (ByteArray.mk #[97]), .int .i64 0, .int .i64 0, .string (ByteArray.mk #[]), .string (ByteArray.mk #[99]), .int .i64 2, .int .i64 3, .string (str [])] 68) := ⟨_, rfl⟩
      obtain ⟨G, hG⟩ : ∃ n, n = (w57).heap.size := ⟨_, rfl⟩
      rw [← hWs] at hS2 qs qz ⊢
      rw [← hG] at qs ⊢
      clear hWs hG g
      refine hK _ _ ⟨hS2, ?_⟩
      clear hK K hS
      have hS := hS2
      clear hS2
      try simp only [Act.put, List.setIfInBounds_toArray, List.set_cons_zero, List.set_cons_succ]
      refine gs_run (i := 5) rfl (by kernel_rfl) (by rfl) (fun K hK => ?_)
      go_simp
      refine (TK.out _ _ hS (rde_block ed3 (show (Ws).heap[G]? = some (.cells (ed3.flatMap edC).toArray 68 (0, 0)) from qs) (by decide))).mono ?_
      rintro e wt ⟨C, rfl, hC, hone, HT, g⟩
      have hBC : B < Ws.heap.size ∨ wt.heap.size ≤ B := .inl (lt_of_block qz)
      replace qz := (g.block _ (lt_of_block qz)).trans qz
      have hS2 := hS.trans (g.mono hS.size)
      refine hK _ _ ⟨hS2, ?_⟩
      clear hK K hS qs
      have hS := hS2
      clear hS2 g
      try simp only [Act.put, List.setIfInBounds_toArray, List.set_cons_zero, List.set_cons_succ]
      refine gs_take (i := 6) (d := (some 54)) (v := ?_) rfl rfl (by kernel_rfl) (fun _ _ _ h => nomatch h.1) (by rfl) hS (fun w' hb' => ?_) ?_
      rotate_left
      · (try go_simp); (try with_reducible rfl)
      try simp only [Act.put, List.setIfInBounds_toArray, List.set_cons_zero, List.set_cons_succ]
      refine gs_take (i := 7) (d := (some 61)) (v := ?_) rfl rfl (by kernel_rfl) (fun _ _ _ h => nomatch h.1) (by rfl) hS (fun w' hb' => ?_) ?_
      rotate_left
      · (try go_simp); (try with_reducible rfl)
      try simp only [Act.put, List.setIfInBounds_toArray, List.set_cons_zero, List.set_cons_succ]
      refine gs_take (i := 8) (d := (some 62)) (v := ?_) rfl rfl (by kernel_rfl) (fun _ _ _ h => nomatch h.1) (by rfl) hS (fun w' hb' => ?_) ?_
      rotate_left
      · (try go_simp); (try with_reducible rfl)
      try simp only [Act.put, List.setIfInBounds_toArray, List.set_cons_zero, List.set_cons_succ]
      refine gs_take (i := 9) (d := (some 63)) (v := ?_) rfl rfl (by kernel_rfl) (fun _ _ _ h => nomatch h.1) (by rfl) hS (fun w' hb' => ?_) ?_
      rotate_left
      · (try go_simp); (try with_reducible rfl)
      try simp only [Act.put, List.setIfInBounds_toArray, List.set_cons_zero, List.set_cons_succ]
      refine gs_run (i := 11) rfl (by kernel_rfl) (by rfl) (fun K hK => ?_)
      refine wp_store_row (o := ⟨none, _, _, _, _, _⟩) 28 (.tmp 14) (.tmp 61) rfl B C rfl rfl _ zS qz (infoS hC) (zS_size.trans hC.symm) hone ?_
      obtain ⟨W9, hW9⟩ : ∃ X, X = World.setRow wt B C := ⟨_, rfl⟩
      rw [← hW9]
      have q9 : W9.heap[B]? = some (.cells C 28 (0, 0)) := by rw [hW9]; exact setRow_heap _ _ _ _ _ _ qz
      have R9 := Lib.hid (HT.out B nB hBC W9 (fun k hk hn => by rw [hW9]; exact (setRow_other _ _ _ _ hn)))
      have hS2 : Below y5.heap.size y5 W9 := by rw [hW9]; exact below_row hS nB C
      clear hW9
      refine hK _ _ ⟨hS2, ?_⟩
      clear hK K hS
      have hS := hS2
      clear hS2
      try simp only [Act.put, List.setIfInBounds_toArray, List.set_cons_zero, List.set_cons_succ]
      refine gs_take (i := 12) (d := (some 15)) (v := ?_) rfl rfl (by kernel_rfl) (fun _ _ _ h => nomatch h.1) (by rfl) hS (fun w' hb' => ?_) ?_
      rotate_left
      · (try go_simp); (try with_reducible rfl)
      try simp only [Act.put, List.setIfInBounds_toArray, List.set_cons_zero, List.set_cons_succ]
      refine gs_take (i := 13) (d := (some 16)) (v := ?_) rfl rfl (by kernel_rfl) (fun _ _ _ h => nomatch h.1) (by rfl) hS (fun w' hb' => ?_) ?_
      rotate_left
      · (try go_simp); (try with_reducible rfl)
      try simp only [Act.put, List.setIfInBounds_toArray, List.set_cons_zero, List.set_cons_succ]
      refine gs_done (by kernel_rfl) ?_
      refine ⟨rfl, (B, C, G), ?_, ?_⟩
      · simp only [List.foldl_cons, List.foldl_nil, Act.put, List.setIfInBounds_toArray, List.set_cons_zero, List.set_cons_succ]
      · exact ⟨q9, hC, R9, hS⟩
  rintro ⟨B6, C6, G6⟩ y6 ⟨q14, hC6, R6, g5⟩
  simp only [List.foldl_cons, List.foldl_nil, Act.put, List.setIfInBounds_toArray, List.set_cons_zero, List.set_cons_succ]
  replace q3 := (g5.block _ (lt_of_block q3)).trans q3
  replace q6 := (g5.block _ (lt_of_block q6)).trans q6
  have RC := Lib.hid (RB.out.below g5 (Nat.le_refl _))
  have Y7 := Lib.hid (chain Y6.out g5)
  clear TK RB Y6 g5
  have UD := Lib.hid (und3 C3 C6 y6 (TAB.out.below Y7.out) RC.out R6.out)
  go_wp2_with (first | ((with_reducible refine wpList_load_row (o := ⟨some 65, _, _, _, _, _⟩) rfl 28 (.tmp 3) rfl _ rfl _ C3 (0, 0) _ q3 Tryd.underlying28 rfl (infoS hC3) ?_)) | ((with_reducible refine wpList_load_row (o := ⟨some 66, _, _, _, _, _⟩) rfl 28 (.tmp 14) rfl _ rfl _ C6 (0, 0) _ q14 Tryd.underlying28 rfl (infoS hC6) ?_)))
  refine UD.out.mono ?_
  rintro e w7 ⟨b, o, cap, rfl, hb, c0, c1, c2, c3, d0, d1, d2, d3, g5⟩
  replace q6 := (g5.block _ (lt_of_block q6)).trans q6
  have x0 := block_cell ((g5.block _ (lt_of_block q14)).trans q14) 32
  rw [R6.out.ver] at x0
  have hx0 : B6 < w7.heap.size := lt_of_block ((g5.block _ (lt_of_block q14)).trans q14)
  have Y8 := Lib.hid (chain Y7.out g5)
  clear q3 RC R6 hC3 hC6 UD q14 g5
  go_wp2_with fail
  replace x0 := (show _ = some (Value.int .i64 2) from x0)
  have I1' := I1.out
  clear I2 I3 z0 z1 TAB
  have hS : Below w7.heap.size w7 w7.drew := (Below.refl _ _).drew
  refine gs_start (S := (fun W => Below w7.heap.size w7 W)) (by kernel_rfl) ?_
  refine gs_take (i := 0) (d := (some 70)) (v := ?_) rfl rfl (by kernel_rfl) (fun _ _ _ h => h) (by rfl) hS (fun w' hb' => ?_) ?_
  rotate_left
  · (try go_simp); (try with_reducible rfl)
  try simp only [Act.put, List.setIfInBounds_toArray, List.set_cons_zero, List.set_cons_succ]
  refine gs_take (i := 1) (d := (some 71)) (v := ?_) rfl rfl (by kernel_rfl) (fun _ _ _ h => h) (by rfl) hS (fun w' hb' => ?_) ?_
  rotate_left
  · (try go_simp); (try with_reducible rfl)
  try simp only [Act.put, List.setIfInBounds_toArray, List.set_cons_zero, List.set_cons_succ]
  refine gs_take (i := 2) (d := (some 72)) (v := ?_) rfl rfl (by kernel_rfl) (fun _ _ _ h => h) (by rfl) hS (fun w' hb' => ?_) ?_
  rotate_left
  · (try go_simp); (try with_reducible rfl)
  try simp only [Act.put, List.setIfInBounds_toArray, List.set_cons_zero, List.set_cons_succ]
  refine gs_take (i := 3) (d := (some 73)) (v := ?_) rfl rfl (by kernel_rfl) (fun _ _ _ h => h) (by rfl) hS (fun w' hb' => ?_) ?_
  rotate_left
  · (try go_simp); (try with_reducible rfl)
  try simp only [Act.put, List.setIfInBounds_toArray, List.set_cons_zero, List.set_cons_succ]
  refine gs_take (i := 4) (d := (some 74)) (v := ?_) rfl rfl (by kernel_rfl) (fun _ _ _ h => h) (by rfl) hS (fun w' hb' => ?_) ?_
  rotate_left
  · (try go_simp); (try with_reducible rfl)
  try simp only [Act.put, List.setIfInBounds_toArray, List.set_cons_zero, List.set_cons_succ]
  refine gs_take (i := 5) (d := (some 75)) (v := ?_) rfl rfl (by kernel_rfl) (fun _ _ _ h => h) (by rfl) hS (fun w' hb' => ?_) ?_
  rotate_left
  · (try go_simp); (try with_reducible rfl)
  try simp only [Act.put, List.setIfInBounds_toArray, List.set_cons_zero, List.set_cons_succ]
  refine gs_take (i := 6) (d := (some 76)) (v := ?_) rfl rfl (by kernel_rfl) (fun _ _ _ h => h) (by rfl) hS (fun w' hb' => ?_) ?_
  rotate_left
  · (try go_simp); (try with_reducible rfl)
  try simp only [Act.put, List.setIfInBounds_toArray, List.set_cons_zero, List.set_cons_succ]
  refine gs_take (i := 7) (d := (some 77)) (v := ?_) rfl rfl (by kernel_rfl) (fun _ _ _ h => h) (by rfl) hS (fun w' hb' => ?_) ?_
  rotate_left
  · have zq := (hb'.block _ (lt_of_block q6)).trans q6; have z0 := block_cell zq 0; have z1 := block_cell zq 1; have z2 := block_cell zq 2; (try go_simp); (try with_reducible rfl)
  try simp only [Act.put, List.setIfInBounds_toArray, List.set_cons_zero, List.set_cons_succ]
  refine gs_run (i := 8) rfl (by kernel_rfl) (by rfl) (fun K hK => ?_)
  go_simp
  refine (I1' _).mono ?_
  rintro e w8 ⟨rfl, g⟩
  have hS2 := hS.trans (g.mono hS.size)
  refine hK _ _ ⟨hS2, ?_⟩
  clear hK K g hS
  have hS := hS2
  clear hS2
  try simp only [Act.put, List.setIfInBounds_toArray, List.set_cons_zero, List.set_cons_succ]
  refine gs_take (i := 9) (d := (some 79)) (v := ?_) rfl rfl (by kernel_rfl) (fun _ _ _ h => h) (by rfl) hS (fun w' hb' => ?_) ?_
  rotate_left
  · (try go_simp); (try with_reducible rfl)
  try simp only [Act.put, List.setIfInBounds_toArray, List.set_cons_zero, List.set_cons_succ]
  refine gs_take (i := 10) (d := (some 80)) (v := ?_) rfl rfl (by kernel_rfl) (fun _ _ _ h => h) (by rfl) hS (fun w' hb' => ?_) ?_
  rotate_left
  · (try go_simp); (try with_reducible rfl)
  try simp only [Act.put, List.setIfInBounds_toArray, List.set_cons_zero, List.set_cons_succ]
  refine gs_take (i := 11) (d := (some 81)) (v := ?_) rfl rfl (by kernel_rfl) (fun _ _ _ h => h) (by rfl) hS (fun w' hb' => ?_) ?_
  rotate_left
  · (try go_simp); (try with_reducible rfl)
  try simp only [Act.put, List.setIfInBounds_toArray, List.set_cons_zero, List.set_cons_succ]
  refine gs_take (i := 12) (d := (some 82)) (v := ?_) rfl rfl (by kernel_rfl) (fun _ _ _ h => h) (by rfl) hS (fun w' hb' => ?_) ?_
  rotate_left
  · (try go_simp); (try with_reducible rfl)
  try simp only [Act.put, List.setIfInBounds_toArray, List.set_cons_zero, List.set_cons_succ]
  refine gs_take (i := 13) (d := (some 83)) (v := ?_) rfl rfl (by kernel_rfl) (fun _ _ _ h => h) (by rfl) hS (fun w' hb' => ?_) ?_
  rotate_left
  · (try go_simp); (try with_reducible rfl)
  try simp only [Act.put, List.setIfInBounds_toArray, List.set_cons_zero, List.set_cons_succ]
  refine gs_take (i := 14) (d := (some 84)) (v := ?_) rfl rfl (by kernel_rfl) (fun _ _ _ h => h) (by rfl) hS (fun w' hb' => ?_) ?_
  rotate_left
  · (try go_simp); (try with_reducible rfl)
  try simp only [Act.put, List.setIfInBounds_toArray, List.set_cons_zero, List.set_cons_succ]
  refine gs_take (i := 15) (d := (some 85)) (v := ?_) rfl rfl (by kernel_rfl) (fun _ _ _ h => h) (by rfl) hS (fun w' hb' => ?_) ?_
  rotate_left
  · (try go_simp); (try with_reducible rfl)
  try simp only [Act.put, List.setIfInBounds_toArray, List.set_cons_zero, List.set_cons_succ]
  refine gs_take (i := 16) (d := (some 86)) (v := ?_) rfl rfl (by kernel_rfl) (fun _ _ _ h => h) (by rfl) hS (fun w' hb' => ?_) ?_
  rotate_left
  · (try go_simp); (try with_reducible rfl)
  try simp only [Act.put, List.setIfInBounds_toArray, List.set_cons_zero, List.set_cons_succ]
  refine gs_take (i := 17) (d := (some 87)) (v := ?_) rfl rfl (by kernel_rfl) (fun _ _ _ h => h) (by rfl) hS (fun w' hb' => ?_) ?_
  rotate_left
  · (try go_simp); (try with_reducible rfl)
  try simp only [Act.put, List.setIfInBounds_toArray, List.set_cons_zero, List.set_cons_succ]
  refine gs_take (i := 18) (d := (some 88)) (v := ?_) rfl rfl (by kernel_rfl) (fun _ _ _ h => h) (by rfl) hS (fun w' hb' => ?_) ?_
  rotate_left
  · (try go_simp); (try with_reducible rfl)
  try simp only [Act.put, List.setIfInBounds_toArray, List.set_cons_zero, List.set_cons_succ]
  refine gs_take (i := 19) (d := (some 89)) (v := ?_) rfl rfl (by kernel_rfl) (fun _ _ _ h => h) (by rfl) hS (fun w' hb' => ?_) ?_
  rotate_left
  · (try go_simp); (try with_reducible rfl)
  try simp only [Act.put, List.setIfInBounds_toArray, List.set_cons_zero, List.set_cons_succ]
  refine gs_take (i := 20) (d := (some 90)) (v := ?_) rfl rfl (by kernel_rfl) (fun _ _ _ h => h) (by rfl) hS (fun w' hb' => ?_) ?_
  rotate_left
  · (try go_simp); (try with_reducible rfl)
  try simp only [Act.put, List.setIfInBounds_toArray, List.set_cons_zero, List.set_cons_succ]
  refine gs_take (i := 21) (d := (some 91)) (v := ?_) rfl rfl (by kernel_rfl) (fun _ _ _ h => h) (by rfl) hS (fun w' hb' => ?_) ?_
  rotate_left
  · (try go_simp); (try with_reducible rfl)
  try simp only [Act.put, List.setIfInBounds_toArray, List.set_cons_zero, List.set_cons_succ]
  refine gs_take (i := 22) (d := (some 92)) (v := ?_) rfl rfl (by kernel_rfl) (fun _ _ _ h => h) (by rfl) hS (fun w' hb' => ?_) ?_
  rotate_left
  · (try go_simp); (try with_reducible rfl)
  try simp only [Act.put, List.setIfInBounds_toArray, List.set_cons_zero, List.set_cons_succ]
  refine gs_take (i := 23) (d := (some 93)) (v := ?_) rfl rfl (by kernel_rfl) (fun _ _ _ h => h) (by rfl) hS (fun w' hb' => ?_) ?_
  rotate_left
  · (try go_simp); (try with_reducible rfl)
  try simp only [Act.put, List.setIfInBounds_toArray, List.set_cons_zero, List.set_cons_succ]
  refine gs_take (i := 24) (d := (some 94)) (v := ?_) rfl rfl (by kernel_rfl) (fun _ _ _ h => h) (by rfl) hS (fun w' hb' => ?_) ?_
  rotate_left
  · (try go_simp); (try with_reducible rfl)
  try simp only [Act.put, List.setIfInBounds_toArray, List.set_cons_zero, List.set_cons_succ]
  refine gs_take (i := 25) (d := (some 95)) (v := ?_) rfl rfl (by kernel_rfl) (fun _ _ _ h => h) (by rfl) hS (fun w' hb' => ?_) ?_
  rotate_left
  · (try go_simp); (try with_reducible rfl)
  try simp only [Act.put, List.setIfInBounds_toArray, List.set_cons_zero, List.set_cons_succ]
  refine gs_take (i := 26) (d := (some 96)) (v := ?_) rfl rfl (by kernel_rfl) (fun _ _ _ h => h) (by rfl) hS (fun w' hb' => ?_) ?_
  rotate_left
  · (try go_simp); (try with_reducible rfl)
  try simp only [Act.put, List.setIfInBounds_toArray, List.set_cons_zero, List.set_cons_succ]
  refine gs_take (i := 27) (d := (some 97)) (v := ?_) rfl rfl (by kernel_rfl) (fun _ _ _ h => h) (by rfl) hS (fun w' hb' => ?_) ?_
  rotate_left
  · (try go_simp); (try with_reducible rfl)
  try simp only [Act.put, List.setIfInBounds_toArray, List.set_cons_zero, List.set_cons_succ]
  refine gs_take (i := 28) (d := (some 98)) (v := ?_) rfl rfl (by kernel_rfl) (fun _ _ _ h => h) (by rfl) hS (fun w' hb' => ?_) ?_
  rotate_left
  · (try go_simp); (try with_reducible rfl)
  try simp only [Act.put, List.setIfInBounds_toArray, List.set_cons_zero, List.set_cons_succ]
  refine gs_take (i := 29) (d := (some 99)) (v := ?_) rfl rfl (by kernel_rfl) (fun _ _ _ h => h) (by rfl) hS (fun w' hb' => ?_) ?_
  rotate_left
  · (try go_simp); (try with_reducible rfl)
  try simp only [Act.put, List.setIfInBounds_toArray, List.set_cons_zero, List.set_cons_succ]
  refine gs_take (i := 30) (d := (some 100)) (v := ?_) rfl rfl (by kernel_rfl) (fun _ _ _ h => h) (by rfl) hS (fun w' hb' => ?_) ?_
  rotate_left
  · (try go_simp); (try with_reducible rfl)
  try simp only [Act.put, List.setIfInBounds_toArray, List.set_cons_zero, List.set_cons_succ]
  refine gs_take (i := 31) (d := (some 101)) (v := ?_) rfl rfl (by kernel_rfl) (fun _ _ _ h => h) (by rfl) hS (fun w' hb' => ?_) ?_
  rotate_left
  · (try go_simp); (try with_reducible rfl)
  try simp only [Act.put, List.setIfInBounds_toArray, List.set_cons_zero, List.set_cons_succ]
  refine gs_take (i := 32) (d := (some 102)) (v := ?_) rfl rfl (by kernel_rfl) (fun _ _ _ h => h) (by rfl) hS (fun w' hb' => ?_) ?_
  rotate_left
  · (try go_simp); (try with_reducible rfl)
  try simp only [Act.put, List.setIfInBounds_toArray, List.set_cons_zero, List.set_cons_succ]
  refine gs_take (i := 33) (d := (some 103)) (v := ?_) rfl rfl (by kernel_rfl) (fun _ _ _ h => h) (by rfl) hS (fun w' hb' => ?_) ?_
  rotate_left
  · (try go_simp); (try with_reducible rfl)
  try simp only [Act.put, List.setIfInBounds_toArray, List.set_cons_zero, List.set_cons_succ]
  refine gs_take (i := 34) (d := (some 104)) (v := ?_) rfl rfl (by kernel_rfl) (fun _ _ _ h => h) (by rfl) hS (fun w' hb' => ?_) ?_
  rotate_left
  · (try go_simp); (try with_reducible rfl)
  try simp only [Act.put, List.setIfInBounds_toArray, List.set_cons_zero, List.set_cons_succ]
  refine gs_take (i := 35) (d := (some 105)) (v := ?_) rfl rfl (by kernel_rfl) (fun _ _ _ h => h) (by rfl) hS (fun w' hb' => ?_) ?_
  rotate_left
  · (try go_simp); (try with_reducible rfl)
  try simp only [Act.put, List.setIfInBounds_toArray, List.set_cons_zero, List.set_cons_succ]
  refine gs_take (i := 36) (d := (some 106)) (v := ?_) rfl rfl (by kernel_rfl) (fun _ _ _ h => h) (by rfl) hS (fun w' hb' => ?_) ?_
  rotate_left
  · (try go_simp); (try with_reducible rfl)
  try simp only [Act.put, List.setIfInBounds_toArray, List.set_cons_zero, List.set_cons_succ]
  refine gs_take (i := 37) (d := (some 107)) (v := ?_) rfl rfl (by kernel_rfl) (fun _ _ _ h => h) (by rfl) hS (fun w' hb' => ?_) ?_
  rotate_left
  · (try go_simp); (try with_reducible rfl)
  try simp only [Act.put, List.setIfInBounds_toArray, List.set_cons_zero, List.set_cons_succ]
  refine gs_take (i := 38) (d := (some 108)) (v := ?_) rfl rfl (by kernel_rfl) (fun _ _ _ h => h) (by rfl) hS (fun w' hb' => ?_) ?_
  rotate_left
  · (try go_simp); (try with_reducible rfl)
  try simp only [Act.put, List.setIfInBounds_toArray, List.set_cons_zero, List.set_cons_succ]
  refine gs_take (i := 39) (d := (some 109)) (v := ?_) rfl rfl (by kernel_rfl) (fun _ _ _ h => h) (by rfl) hS (fun w' hb' => ?_) ?_
  rotate_left
  · (try go_simp); (try with_reducible rfl)
  try simp only [Act.put, List.setIfInBounds_toArray, List.set_cons_zero, List.set_cons_succ]
  refine gs_take (i := 40) (d := (some 110)) (v := ?_) rfl rfl (by kernel_rfl) (fun _ _ _ h => h) (by rfl) hS (fun w' hb' => ?_) ?_
  rotate_left
  · (try go_simp); (try with_reducible rfl)
  try simp only [Act.put, List.setIfInBounds_toArray, List.set_cons_zero, List.set_cons_succ]
  refine gs_take (i := 41) (d := (some 111)) (v := ?_) rfl rfl (by kernel_rfl) (fun _ _ _ h => h) (by rfl) hS (fun w' hb' => ?_) ?_
  rotate_left
  · have zz := (hb'.cell (p := ⟨B6, 32, none⟩) hx0).trans x0; (try go_simp); (try with_reducible rfl)
  try simp only [Act.put, List.setIfInBounds_toArray, List.set_cons_zero, List.set_cons_succ]
  refine gs_take (i := 42) (d := (some 112)) (v := ?_) rfl rfl (by kernel_rfl) (fun _ _ _ h => h) (by rfl) hS (fun w' hb' => ?_) ?_
  rotate_left
  · (try go_simp); (try with_reducible rfl)
  try simp only [Act.put, List.setIfInBounds_toArray, List.set_cons_zero, List.set_cons_succ]
  refine gs_take (i := 43) (d := (some 113)) (v := ?_) rfl rfl (by kernel_rfl) (fun _ _ _ h => h) (by rfl) hS (fun w' hb' => ?_) ?_
  rotate_left
  · (try go_simp); (try with_reducible rfl)
  try simp only [Act.put, List.setIfInBounds_toArray, List.set_cons_zero, List.set_cons_succ]
  refine gs_take (i := 44) (d := (some 114)) (v := ?_) rfl rfl (by kernel_rfl) (fun _ _ _ h => h) (by rfl) hS (fun w' hb' => ?_) ?_
  rotate_left
  · (try go_simp); (try with_reducible rfl)
  try simp only [Act.put, List.setIfInBounds_toArray, List.set_cons_zero, List.set_cons_succ]
  refine gs_take (i := 45) (d := (some 115)) (v := ?_) rfl rfl (by kernel_rfl) (fun _ _ _ h => h) (by rfl) hS (fun w' hb' => ?_) ?_
  rotate_left
  · (try go_simp); (try with_reducible rfl)
  try simp only [Act.put, List.setIfInBounds_toArray, List.set_cons_zero, List.set_cons_succ]
  refine gs_take (i := 46) (d := (some 116)) (v := ?_) rfl rfl (by kernel_rfl) (fun _ _ _ h => h) (by rfl) hS (fun w' hb' => ?_) ?_
  rotate_left
  · (try go_simp); (try with_reducible rfl)
  try simp only [Act.put, List.setIfInBounds_toArray, List.set_cons_zero, List.set_cons_succ]
  refine gs_take (i := 47) (d := (some 117)) (v := ?_) rfl rfl (by kernel_rfl) (fun _ _ _ h => h) (by rfl) hS (fun w' hb' => ?_) ?_
  rotate_left
  · (try go_simp); (try with_reducible rfl)
  try simp only [Act.put, List.setIfInBounds_toArray, List.set_cons_zero, List.set_cons_succ]
  refine gs_take (i := 48) (d := (some 118)) (v := ?_) rfl rfl (by kernel_rfl) (fun _ _ _ h => h) (by rfl) hS (fun w' hb' => ?_) ?_
  rotate_left
  · (try go_simp); (try with_reducible rfl)
  try simp only [Act.put, List.setIfInBounds_toArray, List.set_cons_zero, List.set_cons_succ]
  refine gs_take (i := 49) (d := (some 119)) (v := ?_) rfl rfl (by kernel_rfl) (fun _ _ _ h => h) (by rfl) hS (fun w' hb' => ?_) ?_
  rotate_left
  · (try go_simp); (try with_reducible rfl)
  try simp only [Act.put, List.setIfInBounds_toArray, List.set_cons_zero, List.set_cons_succ]
  refine gs_take (i := 50) (d := (some 120)) (v := ?_) rfl rfl (by kernel_rfl) (fun _ _ _ h => h) (by rfl) hS (fun w' hb' => ?_) ?_
  rotate_left
  · (try go_simp); (try with_reducible rfl)
  try simp only [Act.put, List.setIfInBounds_toArray, List.set_cons_zero, List.set_cons_succ]
  refine gs_take (i := 51) (d := (some 121)) (v := ?_) rfl rfl (by kernel_rfl) (fun _ _ _ h => h) (by rfl) hS (fun w' hb' => ?_) ?_
  rotate_left
  · (try go_simp); (try with_reducible rfl)
  try simp only [Act.put, List.setIfInBounds_toArray, List.set_cons_zero, List.set_cons_succ]
  refine gs_take (i := 52) (d := (some 122)) (v := ?_) rfl rfl (by kernel_rfl) (fun _ _ _ h => h) (by rfl) hS (fun w' hb' => ?_) ?_
  rotate_left
  · have z0 := (hb'.cell (p := ⟨b, o, none⟩) hb).trans c0; have z1 := (hb'.cell (p := ⟨b, o + 1, none⟩) hb).trans c1; have z2 := (hb'.cell (p := ⟨b, o + 2, none⟩) hb).trans c2; have z3 := (hb'.cell (p := ⟨b, o + 3, none⟩) hb).trans c3; (try go_simp); (try with_reducible rfl)
  try simp only [Act.put, List.setIfInBounds_toArray, List.set_cons_zero, List.set_cons_succ]
  refine gs_run (i := 53) rfl (by kernel_rfl) (by rfl) (fun K hK => ?_)
  go_simp
  refine (I1' _).mono ?_
  rintro e w8 ⟨rfl, g⟩
  have hS2 := hS.trans (g.mono hS.size)
  refine hK _ _ ⟨hS2, ?_⟩
  clear hK K g hS
  have hS := hS2
  clear hS2
  try simp only [Act.put, List.setIfInBounds_toArray, List.set_cons_zero, List.set_cons_succ]
  refine gs_take (i := 54) (d := (some 124)) (v := ?_) rfl rfl (by kernel_rfl) (fun _ _ _ h => h) (by rfl) hS (fun w' hb' => ?_) ?_
  rotate_left
  · (try go_simp); (try with_reducible rfl)
  try simp only [Act.put, List.setIfInBounds_toArray, List.set_cons_zero, List.set_cons_succ]
  refine gs_take (i := 55) (d := (some 125)) (v := ?_) rfl rfl (by kernel_rfl) (fun _ _ _ h => h) (by rfl) hS (fun w' hb' => ?_) ?_
  rotate_left
  · (try go_simp); (try with_reducible rfl)
  try simp only [Act.put, List.setIfInBounds_toArray, List.set_cons_zero, List.set_cons_succ]
  refine gs_take (i := 56) (d := (some 126)) (v := ?_) rfl rfl (by kernel_rfl) (fun _ _ _ h => h) (by rfl) hS (fun w' hb' => ?_) ?_
  rotate_left
  · (try go_simp); (try with_reducible rfl)
  try simp only [Act.put, List.setIfInBounds_toArray, List.set_cons_zero, List.set_cons_succ]
  refine gs_take (i := 57) (d := (some 127)) (v := ?_) rfl rfl (by kernel_rfl) (fun _ _ _ h => h) (by rfl) hS (fun w' hb' => ?_) ?_
  rotate_left
  · (try go_simp); (try with_reducible rfl)
  try simp only [Act.put, List.setIfInBounds_toArray, List.set_cons_zero, List.set_cons_succ]
  refine gs_take (i := 58) (d := (some 128)) (v := ?_) rfl rfl (by kernel_rfl) (fun _ _ _ h => h) (by rfl) hS (fun w' hb' => ?_) ?_
  rotate_left
  · (try go_simp); (try with_reducible rfl)
  try simp only [Act.put, List.setIfInBounds_toArray, List.set_cons_zero, List.set_cons_succ]
  refine gs_take (i := 59) (d := (some 129)) (v := ?_) rfl rfl (by kernel_rfl) (fun _ _ _ h => h) (by rfl) hS (fun w' hb' => ?_) ?_
  rotate_left
  · (try go_simp); (try with_reducible rfl)
  try simp only [Act.put, List.setIfInBounds_toArray, List.set_cons_zero, List.set_cons_succ]
  refine gs_take (i := 60) (d := (some 130)) (v := ?_) rfl rfl (by kernel_rfl) (fun _ _ _ h => h) (by rfl) hS (fun w' hb' => ?_) ?_
  rotate_left
  · have z0 := (hb'.cell (p := ⟨b, o + 4, none⟩) hb).trans d0; have z1 := (hb'.cell (p := ⟨b, o + 5, none⟩) hb).trans d1; have z2 := (hb'.cell (p := ⟨b, o + 6, none⟩) hb).trans d2; have z3 := (hb'.cell (p := ⟨b, o + 7, none⟩) hb).trans d3; (try go_simp); (try with_reducible rfl)
  try simp only [Act.put, List.setIfInBounds_toArray, List.set_cons_zero, List.set_cons_succ]
  refine gs_take (i := 61) (d := (some 131)) (v := ?_) rfl rfl (by kernel_rfl) (fun _ _ _ h => h) (by rfl) hS (fun w' hb' => ?_) ?_
  rotate_left
  · (try go_simp); (try with_reducible rfl)
  try simp only [Act.put, List.setIfInBounds_toArray, List.set_cons_zero, List.set_cons_succ]
  refine gs_take (i := 62) (d := (some 132)) (v := ?_) rfl rfl (by kernel_rfl) (fun _ _ _ h => h) (by rfl) hS (fun w' hb' => ?_) ?_
  rotate_left
  · (try go_simp); (try with_reducible rfl)
  try simp only [Act.put, List.setIfInBounds_toArray, List.set_cons_zero, List.set_cons_succ]
  refine gs_take (i := 63) (d := (some 133)) (v := ?_) rfl rfl (by kernel_rfl) (fun _ _ _ h => h) (by rfl) hS (fun w' hb' => ?_) ?_
  rotate_left
  · (try go_simp); (try with_reducible rfl)
  try simp only [Act.put, List.setIfInBounds_toArray, List.set_cons_zero, List.set_cons_succ]
  refine gs_take (i := 64) (d := (some 134)) (v := ?_) rfl rfl (by kernel_rfl) (fun _ _ _ h => h) (by rfl) hS (fun w' hb' => ?_) ?_
  rotate_left
  · (try go_simp); (try with_reducible rfl)
  try simp only [Act.put, List.setIfInBounds_toArray, List.set_cons_zero, List.set_cons_succ]
  refine gs_take (i := 65) (d := (some 135)) (v := ?_) rfl rfl (by kernel_rfl) (fun _ _ _ h => h) (by rfl) hS (fun w' hb' => ?_) ?_
  rotate_left
  · (try go_simp); (try with_reducible rfl)
  try simp only [Act.put, List.setIfInBounds_toArray, List.set_cons_zero, List.set_cons_succ]
  refine gs_take (i := 66) (d := (some 136)) (v := ?_) rfl rfl (by kernel_rfl) (fun _ _ _ h => h) (by rfl) hS (fun w' hb' => ?_) ?_
  rotate_left
  · (try go_simp); (try with_reducible rfl)
  try simp only [Act.put, List.setIfInBounds_toArray, List.set_cons_zero, List.set_cons_succ]
  refine gs_take (i := 67) (d := (some 137)) (v := ?_) rfl rfl (by kernel_rfl) (fun _ _ _ h => h) (by rfl) hS (fun w' hb' => ?_) ?_
  rotate_left
  · (try go_simp); (try with_reducible rfl)
  try simp only [Act.put, List.setIfInBounds_toArray, List.set_cons_zero, List.set_cons_succ]
  refine gs_take (i := 68) (d := (some 138)) (v := ?_) rfl rfl (by kernel_rfl) (fun _ _ _ h => h) (by rfl) hS (fun w' hb' => ?_) ?_
  rotate_left
  · (try go_simp); (try with_reducible rfl)
  try simp only [Act.put, List.setIfInBounds_toArray, List.set_cons_zero, List.set_cons_succ]
  refine gs_take (i := 69) (d := (some 139)) (v := ?_) rfl rfl (by kernel_rfl) (fun _ _ _ h => h) (by rfl) hS (fun w' hb' => ?_) ?_
  rotate_left
  · (try go_simp); (try with_reducible rfl)
  try simp only [Act.put, List.setIfInBounds_toArray, List.set_cons_zero, List.set_cons_succ]
  refine gs_take (i := 70) (d := (some 140)) (v := ?_) rfl rfl (by kernel_rfl) (fun _ _ _ h => h) (by rfl) hS (fun w' hb' => ?_) ?_
  rotate_left
  · (try go_simp); (try with_reducible rfl)
  try simp only [Act.put, List.setIfInBounds_toArray, List.set_cons_zero, List.set_cons_succ]
  refine gs_take (i := 71) (d := (some 141)) (v := ?_) rfl rfl (by kernel_rfl) (fun _ _ _ h => h) (by rfl) hS (fun w' hb' => ?_) ?_
  rotate_left
  · (try go_simp); (try with_reducible rfl)
  try simp only [Act.put, List.setIfInBounds_toArray, List.set_cons_zero, List.set_cons_succ]
  refine gs_take (i := 72) (d := (some 0)) (v := ?_) rfl rfl (by kernel_rfl) (fun _ _ _ h => h) (by rfl) hS (fun w' hb' => ?_) ?_
  rotate_left
  · (try go_simp); (try with_reducible rfl)
  try simp only [Act.put, List.setIfInBounds_toArray, List.set_cons_zero, List.set_cons_succ]
  refine gs_done (by kernel_rfl) ?_
  go_wp2_with fail
  go_ret
  exact ⟨rfl, chain Y8.out hS⟩

end Go.Proofs.YtbdfcgffkonbiaaDoor
