/- Snaps: Check, is. Written by wip/tools/gen14c.py. -/
import Derived.Test.YtbdfcgffkonbiaaDoorQSN34
namespace Go.Proofs.YtbdfcgffkonbiaaDoor
open Go Go.RowKit
set_option linter.unusedVariables false
set_option linter.unusedSimpArgs false
set_option maxRecDepth 100000 in
set_option maxHeartbeats 2000000 in
theorem check14_any (v : Value) (L : List Sn) (w : World) (tab : TabAt w) (h : RdK 36 snC w v L) (hrs : RdSn w L) (hsz : SzSn L) (hln : LenSn L) :
    Calls Tryd.prog 39 #[v] w fun e w' => e = .returned (.tuple #[.int .i64 ((chk14 L).1 : Int), .int .i64 ((chk14 L).2 : Int)]) ∧ Below w.heap.size w w' := by
  obtain ⟨ao, cap, rfl, hc, hm, hr⟩ := RdK.open h
  obtain ⟨R, hR⟩ : ∃ R, R = Ending.returned (.tuple #[.int .i64 ((chk14 L).1 : Int), .int .i64 ((chk14 L).2 : Int)]) := ⟨_, rfl⟩
  rw [← hR]
  have HR := Lib.hid hR
  clear h hR
  by_cases hbig : 8 < L.length
  · have E := Lib.hid (show chk14 L = (5, 8) by unfold chk14; rw [if_pos hbig])
    clear hr hrs hsz hln
    go_enter Tryd.func39, Tryd.ntmps39
    go_wp2_with fail
    go_ret2
    exact ⟨by rw [HR.out, E.out]; rfl, Below.refl _ _⟩
  · have hr : RdK 36 snC w (.slice ao L.length cap) L := hr
    have S0 := Lib.hid (show chk14 L = badGo L (L.length - 0) 0 by unfold chk14; rw [if_neg hbig]; rfl)
    have HRD := Lib.hid hr
    have HRS := Lib.hid hrs
    have HSZ := Lib.hid hsz
    have HLN := Lib.hid hln
    have z0 := zeroSN_run
    have z1 := zSN_ne
    clear hr hrs hsz hln
    go_enter Tryd.func39, Tryd.ntmps39
    go_wp2_with fail
    go_loopw [11] (fun i wr => ∃ k : Nat, k ≤ L.length ∧ i = .int .i64 (k : Int) ∧ Hid (chk14 L = badGo L (L.length - k) k) ∧ Below w.heap.size w wr) (fun i _ => 100 - (intOf i).toNat)
    case atStart => exact ⟨0, Nat.zero_le _, rfl, S0, Below.refl _ _⟩
    case round =>
      obtain ⟨k, hk, rfl, E0, bel⟩ := hrel
      by_cases hlt : k < L.length
      · have BEL0 := Lib.hid bel
        obtain ⟨b, off, rfl, hb, hcx0⟩ := RdK.cell snC_len (HRD.out.below bel (Nat.le_refl _)) k hlt
        obtain ⟨x, hx⟩ : ∃ x, x = L[k]'hlt := ⟨_, rfl⟩
        rw [← hx] at hcx0
        have hcx : ∀ i, i < 36 → wr.cell? ⟨b, off + k * 36 + i, none⟩ = (snC x)[i]? := fun i hi => by rw [Nat.add_assoc]; exact hcx0 i hi
        have hmx : x ∈ L := by rw [hx]; exact List.getElem_mem _
        have RG := sn_range hcx
        have qd := heap_alloc_new wr (.cells zSN 77)
        have hz5 : zSN.size = (snV x).size := by rw [snV_size]; rfl
        have ho5 := snV_one (HRS.out x hmx)
        have MY0 := fun W (g : Below w.heap.size w W) => may13_any (snA x) x.s W (tab.below g) ((HRS.out x hmx).below g (Nat.le_refl _)) (HSZ.out x hmx).1 (HSZ.out x hmx).2 (HLN.out x hmx)
        have HX := Lib.hid hx
        clear hx hcx0 hcx
        by_cases hq : x.q < 0
        · have t0 : decide (x.q < 0) = true := decide_eq_true hq
          have E := Lib.hid (show chk14 L = (1, k) by rw [E0.out]; exact badGo_bad hlt (bad_q hlt (by rw [← HX.out]; exact hq)) (by decide))
          clear hq E0 MY0
          go_wp2_with (first | ((with_reducible refine wpList_load_part (o := ⟨some 15, _, _, _, _, _⟩) rfl 77 (.tmp 14) rfl _ (off + k * 36) rfl (snV x) _ RG Tryd.underlying77 rfl (infoSN x) ?_)) | ((with_reducible refine wpList_store_row (o := ⟨none, _, _, _, _, _⟩) rfl 77 (.tmp 5) (.tmp 15) rfl _ (snV x) rfl rfl _ zSN qd (infoSN x) hz5 ho5 ?_); (obtain ⟨WS, hWS⟩ : ∃ W, W = (World.alloc wr (.cells zSN 77)).setRow wr.heap.size (snV x) := ⟨_, rfl⟩); rw [← hWS]; (have q5 : WS.heap[wr.heap.size]? = some (.cells (snV x) 77 (0, 0)) := by rw [hWS]; exact setRow_heap _ _ _ (snV x) _ _ qd); (have bel : Below w.heap.size w WS := by rw [hWS]; exact below_row (bel.alloc bel.size _) bel.size (snV x)); clear hWS; (have c5 := (block_cell q5 0).trans (snV_0 x)); (have RS5 : WS.rangeAt wr.heap.size 1 (snA x).toList := sn_store (blk_cells q5))))
          go_ret2
          exact ⟨by rw [HR.out, E.out]; rfl, bel⟩
        · have t0 : decide (x.q < 0) = false := decide_eq_false hq
          have HQ := Lib.hid hq
          clear hq
          cases hmy : mayS x.s with
          | false =>
            rw [hmy] at MY0
            have MY := Lib.hid MY0
            have E := Lib.hid (show chk14 L = (1, k) by rw [E0.out]; exact badGo_bad hlt (bad_may hlt (by rw [← HX.out]; exact hmy)) (by decide))
            clear hmy E0 MY0
            go_wp2_with (first | ((with_reducible refine wpList_load_part (o := ⟨some 15, _, _, _, _, _⟩) rfl 77 (.tmp 14) rfl _ (off + k * 36) rfl (snV x) _ RG Tryd.underlying77 rfl (infoSN x) ?_)) | ((with_reducible refine wpList_store_row (o := ⟨none, _, _, _, _, _⟩) rfl 77 (.tmp 5) (.tmp 15) rfl _ (snV x) rfl rfl _ zSN qd (infoSN x) hz5 ho5 ?_); (obtain ⟨WS, hWS⟩ : ∃ W, W = (World.alloc wr (.cells zSN 77)).setRow wr.heap.size (snV x) := ⟨_, rfl⟩); rw [← hWS]; (have q5 : WS.heap[wr.heap.size]? = some (.cells (snV x) 77 (0, 0)) := by rw [hWS]; exact setRow_heap _ _ _ (snV x) _ _ qd); (have bel : Below w.heap.size w WS := by rw [hWS]; exact below_row (bel.alloc bel.size _) bel.size (snV x)); clear hWS; (have c5 := (block_cell q5 0).trans (snV_0 x)); (have RS5 : WS.rangeAt wr.heap.size 1 (snA x).toList := sn_store (blk_cells q5))) | ((with_reducible refine wpList_load_part_g (o := ⟨some 22, _, _, _, _, _⟩) ?_ 28 (.tmp 21) rfl _ 1 rfl (snA x) _ RS5 Tryd.underlying28 rfl (infoSA x) ?_); rfl))
            refine (MY.out _ bel).mono ?_
            rintro e w2 ⟨rfl, g⟩
            have bel := chain bel g
            clear g
            go_wp2_with fail
            go_ret2
            exact ⟨by rw [HR.out, E.out]; rfl, bel⟩
          | true =>
            rw [hmy] at MY0
            have MY := Lib.hid MY0
            have HMY := Lib.hid hmy
            clear hmy MY0
            by_cases h0 : k = 0
            · have E := Lib.hid (show chk14 L = badGo L (L.length - (k + 1)) (k + 1) by
                have h := E0.out
                subst h0
                rw [h]; exact badGo_next hlt (bad_no0 hlt (by rw [← HX.out]; exact HQ.out) (by rw [← HX.out]; exact HMY.out)))
              have f3 : decide (0 < (k : Int)) = false := by simp; omega
              have f3n : decide (0 < k) = false := by simp; omega
              clear E0 h0
              go_wp2_with (first | ((with_reducible refine wpList_load_part (o := ⟨some 15, _, _, _, _, _⟩) rfl 77 (.tmp 14) rfl _ (off + k * 36) rfl (snV x) _ RG Tryd.underlying77 rfl (infoSN x) ?_)) | ((with_reducible refine wpList_store_row (o := ⟨none, _, _, _, _, _⟩) rfl 77 (.tmp 5) (.tmp 15) rfl _ (snV x) rfl rfl _ zSN qd (infoSN x) hz5 ho5 ?_); (obtain ⟨WS, hWS⟩ : ∃ W, W = (World.alloc wr (.cells zSN 77)).setRow wr.heap.size (snV x) := ⟨_, rfl⟩); rw [← hWS]; (have q5 : WS.heap[wr.heap.size]? = some (.cells (snV x) 77 (0, 0)) := by rw [hWS]; exact setRow_heap _ _ _ (snV x) _ _ qd); (have bel : Below w.heap.size w WS := by rw [hWS]; exact below_row (bel.alloc bel.size _) bel.size (snV x)); clear hWS; (have c5 := (block_cell q5 0).trans (snV_0 x)); (have RS5 : WS.rangeAt wr.heap.size 1 (snA x).toList := sn_store (blk_cells q5))) | ((with_reducible refine wpList_load_part_g (o := ⟨some 22, _, _, _, _, _⟩) ?_ 28 (.tmp 21) rfl _ 1 rfl (snA x) _ RS5 Tryd.underlying28 rfl (infoSA x) ?_); rfl))
              refine (MY.out _ bel).mono ?_
              rintro e w2 ⟨rfl, g⟩
              have bel := chain bel g
              have q5 := (g.block _ (lt_of_block q5)).trans q5
              clear g
              go_wp2_with fail
              refine g_start (by kernel_rfl) ?_
              refine g_take (i := 0) (d := (some 28)) (v := ?_) rfl rfl (by kernel_rfl) (fun _ _ _ h => h) (by rfl) (fun w' hb' => ?_) ?_
              rotate_left
              · (try go_simp); (try with_reducible rfl)
              try simp only [Act.put, List.setIfInBounds_toArray, List.set_cons_zero, List.set_cons_succ]
              refine g_take (i := 1) (d := (some 29)) (v := ?_) rfl rfl (by kernel_rfl) (fun _ _ _ h => h) (by rfl) (fun w' hb' => ?_) ?_
              rotate_left
              · (try go_simp); (try with_reducible rfl)
              try simp only [Act.put, List.setIfInBounds_toArray, List.set_cons_zero, List.set_cons_succ]
              refine g_take (i := 2) (d := (some 30)) (v := ?_) rfl rfl (by kernel_rfl) (fun _ _ _ h => h) (by rfl) (fun w' hb' => ?_) ?_
              rotate_left
              · (try go_simp); (try with_reducible rfl)
              try simp only [Act.put, List.setIfInBounds_toArray, List.set_cons_zero, List.set_cons_succ]
              refine g_skip (i := 3) (d := (some 31)) rfl rfl (by kernel_rfl) (fun _ _ _ h => h) (by rfl) ?_
              try simp only [Act.put, List.setIfInBounds_toArray, List.set_cons_zero, List.set_cons_succ]
              refine g_skip (i := 4) (d := (some 32)) rfl rfl (by kernel_rfl) (fun _ _ _ h => h) (by rfl) ?_
              try simp only [Act.put, List.setIfInBounds_toArray, List.set_cons_zero, List.set_cons_succ]
              refine g_skip (i := 5) (d := (some 33)) rfl rfl (by kernel_rfl) (fun _ _ _ h => h) (by rfl) ?_
              try simp only [Act.put, List.setIfInBounds_toArray, List.set_cons_zero, List.set_cons_succ]
              refine g_skip (i := 6) (d := (some 34)) rfl rfl (by kernel_rfl) (fun _ _ _ h => h) (by rfl) ?_
              try simp only [Act.put, List.setIfInBounds_toArray, List.set_cons_zero, List.set_cons_succ]
              refine g_skip (i := 7) (d := (some 35)) rfl rfl (by kernel_rfl) (fun _ _ _ h => h) (by rfl) ?_
              try simp only [Act.put, List.setIfInBounds_toArray, List.set_cons_zero, List.set_cons_succ]
              refine g_skip (i := 8) (d := (some 36)) rfl rfl (by kernel_rfl) (fun _ _ _ h => h) (by rfl) ?_
              try simp only [Act.put, List.setIfInBounds_toArray, List.set_cons_zero, List.set_cons_succ]
              refine g_skip (i := 9) (d := (some 37)) rfl rfl (by kernel_rfl) (fun _ _ _ h => h) (by rfl) ?_
              try simp only [Act.put, List.setIfInBounds_toArray, List.set_cons_zero, List.set_cons_succ]
              refine g_skip (i := 10) (d := (some 38)) rfl rfl (by kernel_rfl) (fun _ _ _ h => h) (by rfl) ?_
              try simp only [Act.put, List.setIfInBounds_toArray, List.set_cons_zero, List.set_cons_succ]
              refine g_take (i := 11) (d := (some 39)) (v := ?_) rfl rfl (by kernel_rfl) (fun _ _ _ h => h) (by rfl) (fun w' hb' => ?_) ?_
              rotate_left
              · (try go_simp); (try with_reducible rfl)
              try simp only [Act.put, List.setIfInBounds_toArray, List.set_cons_zero, List.set_cons_succ]
              refine g_take (i := 12) (d := (some 27)) (v := ?_) rfl rfl (by kernel_rfl) (fun _ _ _ h => h) (by rfl) (fun w' hb' => ?_) ?_
              rotate_left
              · (try go_simp); (try with_reducible rfl)
              try simp only [Act.put, List.setIfInBounds_toArray, List.set_cons_zero, List.set_cons_succ]
              refine g_done (by kernel_rfl) ?_
              go_wp2_with fail
              exact ⟨⟨k + 1, by omega, by push_cast; rfl, E, bel.drew⟩, by simp [intOf]; omega⟩
            · obtain ⟨j, hj⟩ : ∃ j, k = j + 1 := ⟨k - 1, by omega⟩
              have hjl : j < L.length := by omega
              obtain ⟨y, hy⟩ : ∃ y, y = L[j]'hjl := ⟨_, rfl⟩
              have hmy2 : y ∈ L := by rw [hy]; exact List.getElem_mem _
              have f1 : IntKind.i64.wrap ((k : Int) - 1) = (j : Int) := by rw [IntKind.wrap_i64]; omega
              have f2 : (k : Int) - 1 = (j : Int) := by omega
              have f5 : IntKind.i64.wrap (j : Int) = (j : Int) := by rw [IntKind.wrap_i64]; omega
              have f3 : decide (0 < (k : Int)) = true := by simp; omega
              have f3n : decide (0 < k) = true := by simp; omega
              have f4 : (j : Int) < L.length := by omega
              have FO0 := fun W (g : Below w.heap.size w W) => follows_any y x W ((HRS.out y hmy2).below g (Nat.le_refl _)) ((HRS.out x hmx).below g (Nat.le_refl _))
              have HY := Lib.hid hy
              have HJ := Lib.hid hj
              clear h0 hj hy
              cases hfo : folB y x with
              | false =>
                rw [hfo] at FO0
                have FO1 := Lib.hid FO0
                have E := Lib.hid (show chk14 L = (3, k) by
                  have h := E0.out
                  have hj := HJ.out
                  subst hj
                  rw [h]; exact badGo_bad hlt (bad_fol hlt (by rw [← HX.out]; exact HQ.out) (by rw [← HX.out]; exact HMY.out) (by rw [← HX.out, ← HY.out]; exact hfo)) (by decide))
                clear hfo E0 FO0
                go_wp2_with (first | ((with_reducible refine wpList_load_part (o := ⟨some 15, _, _, _, _, _⟩) rfl 77 (.tmp 14) rfl _ (off + k * 36) rfl (snV x) _ RG Tryd.underlying77 rfl (infoSN x) ?_)) | ((with_reducible refine wpList_store_row (o := ⟨none, _, _, _, _, _⟩) rfl 77 (.tmp 5) (.tmp 15) rfl _ (snV x) rfl rfl _ zSN qd (infoSN x) hz5 ho5 ?_); (obtain ⟨WS, hWS⟩ : ∃ W, W = (World.alloc wr (.cells zSN 77)).setRow wr.heap.size (snV x) := ⟨_, rfl⟩); rw [← hWS]; (have q5 : WS.heap[wr.heap.size]? = some (.cells (snV x) 77 (0, 0)) := by rw [hWS]; exact setRow_heap _ _ _ (snV x) _ _ qd); (have bel : Below w.heap.size w WS := by rw [hWS]; exact below_row (bel.alloc bel.size _) bel.size (snV x)); clear hWS; (have c5 := (block_cell q5 0).trans (snV_0 x)); (have RS5 : WS.rangeAt wr.heap.size 1 (snA x).toList := sn_store (blk_cells q5))) | ((with_reducible refine wpList_load_part_g (o := ⟨some 22, _, _, _, _, _⟩) ?_ 28 (.tmp 21) rfl _ 1 rfl (snA x) _ RS5 Tryd.underlying28 rfl (infoSA x) ?_); rfl))
                refine (MY.out _ bel).mono ?_
                rintro e w2 ⟨rfl, g⟩
                have bel := chain bel g
                have q5 := (g.block _ (lt_of_block q5)).trans q5
                clear g
                obtain ⟨b2, off2, hbo, hbs, hcy0⟩ := RdK.cell snC_len (HRD.out.below bel (Nat.le_refl _)) j hjl
                cases hbo
                rw [← HY.out] at hcy0
                have hcy : ∀ i, i < 36 → w2.cell? ⟨b, off + j * 36 + i, none⟩ = (snC y)[i]? := fun i hi => by rw [Nat.add_assoc]; exact hcy0 i hi
                have FO := fun W (g : Below w2.heap.size w2 W) => FO1.out W (chain bel g)
                clear hcy0
                go_wp2_with fail
                refine g_start (by kernel_rfl) ?_
                refine g_take (i := 0) (d := (some 28)) (v := ?_) rfl rfl (by kernel_rfl) (fun _ _ _ h => h) (by rfl) (fun w' hb' => ?_) ?_
                rotate_left
                · (try go_simp); (try with_reducible rfl)
                try simp only [Act.put, List.setIfInBounds_toArray, List.set_cons_zero, List.set_cons_succ]
                refine g_take (i := 1) (d := (some 29)) (v := ?_) rfl rfl (by kernel_rfl) (fun _ _ _ h => h) (by rfl) (fun w' hb' => ?_) ?_
                rotate_left
                · (try go_simp); (try with_reducible rfl)
                try simp only [Act.put, List.setIfInBounds_toArray, List.set_cons_zero, List.set_cons_succ]
                refine g_take (i := 2) (d := (some 30)) (v := ?_) rfl rfl (by kernel_rfl) (fun _ _ _ h => h) (by rfl) (fun w' hb' => ?_) ?_
                rotate_left
                · (try go_simp); (try with_reducible rfl)
                try simp only [Act.put, List.setIfInBounds_toArray, List.set_cons_zero, List.set_cons_succ]
                refine g_take (i := 3) (d := (some 31)) (v := ?_) rfl rfl (by kernel_rfl) (fun _ _ _ h => h) (by rfl) (fun w' hb' => ?_) ?_
                rotate_left
                · (try go_simp); (try with_reducible rfl)
                try simp only [Act.put, List.setIfInBounds_toArray, List.set_cons_zero, List.set_cons_succ]
                refine g_take (i := 4) (d := (some 32)) (v := ?_) rfl rfl (by kernel_rfl) (fun _ _ _ h => h) (by rfl) (fun w' hb' => ?_) ?_
                rotate_left
                · (try go_simp); (try with_reducible rfl)
                try simp only [Act.put, List.setIfInBounds_toArray, List.set_cons_zero, List.set_cons_succ]
                refine g_take (i := 5) (d := (some 33)) (v := ?_) rfl rfl (by kernel_rfl) (fun _ _ _ h => h) (by rfl) (fun w' hb' => ?_) ?_
                rotate_left
                · (try go_simp); (try with_reducible rfl)
                try simp only [Act.put, List.setIfInBounds_toArray, List.set_cons_zero, List.set_cons_succ]
                refine g_take (i := 6) (d := (some 34)) (v := ?_) rfl rfl (by kernel_rfl) (fun _ _ _ h => h) (by rfl) (fun w' hb' => ?_) ?_
                rotate_left
                · (try go_simp); (try with_reducible rfl)
                try simp only [Act.put, List.setIfInBounds_toArray, List.set_cons_zero, List.set_cons_succ]
                refine g_take (i := 7) (d := (some 35)) (v := ?_) rfl rfl (by kernel_rfl) (fun _ _ _ h => h) (by rfl) (fun w' hb' => ?_) ?_
                rotate_left
                · (refine load_partO_op _ _ (.tmp 34) ?_ ?_ (sn_range (fun i hi => (hb'.cell (p := ⟨b, off + j * 36 + i, none⟩) hbs).trans (hcy i hi))) Tryd.underlying77 ?_ (infoSN y) <;> rfl); (try go_simp); (try with_reducible rfl)
                try simp only [Act.put, List.setIfInBounds_toArray, List.set_cons_zero, List.set_cons_succ]
                refine g_take (i := 8) (d := (some 36)) (v := ?_) rfl rfl (by kernel_rfl) (fun _ _ _ h => h) (by rfl) (fun w' hb' => ?_) ?_
                rotate_left
                · (refine load_row_op _ _ (.tmp 5) ?_ ?_ ((hb'.block _ (lt_of_block q5)).trans q5) Tryd.underlying77 ?_ (infoSN x) <;> rfl); (try go_simp); (try with_reducible rfl)
                try simp only [Act.put, List.setIfInBounds_toArray, List.set_cons_zero, List.set_cons_succ]
                refine g_run (i := 9) rfl (by kernel_rfl) (by rfl) (fun K hK => ?_)
                go_simp; refine (FO _ (Below.drew (Below.refl _ _))).mono ?_; rintro e u8 ⟨rfl, gg⟩; have bel := chain bel (Below.trans (Below.drew (Below.refl _ _)) gg); refine hK _ _ ⟨gg, ?_⟩; clear hK K gg
                try simp only [Act.put, List.setIfInBounds_toArray, List.set_cons_zero, List.set_cons_succ]
                refine g_take (i := 10) (d := (some 38)) (v := ?_) rfl rfl (by kernel_rfl) (fun _ _ _ h => h) (by rfl) (fun w' hb' => ?_) ?_
                rotate_left
                · (try go_simp); (try with_reducible rfl)
                try simp only [Act.put, List.setIfInBounds_toArray, List.set_cons_zero, List.set_cons_succ]
                refine g_take (i := 11) (d := (some 39)) (v := ?_) rfl rfl (by kernel_rfl) (fun _ _ _ h => h) (by rfl) (fun w' hb' => ?_) ?_
                rotate_left
                · (try go_simp); (try with_reducible rfl)
                try simp only [Act.put, List.setIfInBounds_toArray, List.set_cons_zero, List.set_cons_succ]
                refine g_take (i := 12) (d := (some 27)) (v := ?_) rfl rfl (by kernel_rfl) (fun _ _ _ h => h) (by rfl) (fun w' hb' => ?_) ?_
                rotate_left
                · (try go_simp); (try with_reducible rfl)
                try simp only [Act.put, List.setIfInBounds_toArray, List.set_cons_zero, List.set_cons_succ]
                refine g_done (by kernel_rfl) ?_
                go_wp2_with fail
                go_ret2
                exact ⟨by rw [HR.out, E.out]; rfl, bel⟩
              | true =>
                rw [hfo] at FO0
                have FO1 := Lib.hid FO0
                have E := Lib.hid (show chk14 L = badGo L (L.length - (k + 1)) (k + 1) by
                  have h := E0.out
                  have hj := HJ.out
                  subst hj
                  rw [h]; exact badGo_next hlt (bad_no hlt (by rw [← HX.out]; exact HQ.out) (by rw [← HX.out]; exact HMY.out) (by rw [← HX.out, ← HY.out]; exact hfo)))
                clear hfo E0 FO0
                go_wp2_with (first | ((with_reducible refine wpList_load_part (o := ⟨some 15, _, _, _, _, _⟩) rfl 77 (.tmp 14) rfl _ (off + k * 36) rfl (snV x) _ RG Tryd.underlying77 rfl (infoSN x) ?_)) | ((with_reducible refine wpList_store_row (o := ⟨none, _, _, _, _, _⟩) rfl 77 (.tmp 5) (.tmp 15) rfl _ (snV x) rfl rfl _ zSN qd (infoSN x) hz5 ho5 ?_); (obtain ⟨WS, hWS⟩ : ∃ W, W = (World.alloc wr (.cells zSN 77)).setRow wr.heap.size (snV x) := ⟨_, rfl⟩); rw [← hWS]; (have q5 : WS.heap[wr.heap.size]? = some (.cells (snV x) 77 (0, 0)) := by rw [hWS]; exact setRow_heap _ _ _ (snV x) _ _ qd); (have bel : Below w.heap.size w WS := by rw [hWS]; exact below_row (bel.alloc bel.size _) bel.size (snV x)); clear hWS; (have c5 := (block_cell q5 0).trans (snV_0 x)); (have RS5 : WS.rangeAt wr.heap.size 1 (snA x).toList := sn_store (blk_cells q5))) | ((with_reducible refine wpList_load_part_g (o := ⟨some 22, _, _, _, _, _⟩) ?_ 28 (.tmp 21) rfl _ 1 rfl (snA x) _ RS5 Tryd.underlying28 rfl (infoSA x) ?_); rfl))
                refine (MY.out _ bel).mono ?_
                rintro e w2 ⟨rfl, g⟩
                have bel := chain bel g
                have q5 := (g.block _ (lt_of_block q5)).trans q5
                clear g
                obtain ⟨b2, off2, hbo, hbs, hcy0⟩ := RdK.cell snC_len (HRD.out.below bel (Nat.le_refl _)) j hjl
                cases hbo
                rw [← HY.out] at hcy0
                have hcy : ∀ i, i < 36 → w2.cell? ⟨b, off + j * 36 + i, none⟩ = (snC y)[i]? := fun i hi => by rw [Nat.add_assoc]; exact hcy0 i hi
                have FO := fun W (g : Below w2.heap.size w2 W) => FO1.out W (chain bel g)
                clear hcy0
                go_wp2_with fail
                refine g_start (by kernel_rfl) ?_
                refine g_take (i := 0) (d := (some 28)) (v := ?_) rfl rfl (by kernel_rfl) (fun _ _ _ h => h) (by rfl) (fun w' hb' => ?_) ?_
                rotate_left
                · (try go_simp); (try with_reducible rfl)
                try simp only [Act.put, List.setIfInBounds_toArray, List.set_cons_zero, List.set_cons_succ]
                refine g_take (i := 1) (d := (some 29)) (v := ?_) rfl rfl (by kernel_rfl) (fun _ _ _ h => h) (by rfl) (fun w' hb' => ?_) ?_
                rotate_left
                · (try go_simp); (try with_reducible rfl)
                try simp only [Act.put, List.setIfInBounds_toArray, List.set_cons_zero, List.set_cons_succ]
                refine g_take (i := 2) (d := (some 30)) (v := ?_) rfl rfl (by kernel_rfl) (fun _ _ _ h => h) (by rfl) (fun w' hb' => ?_) ?_
                rotate_left
                · (try go_simp); (try with_reducible rfl)
                try simp only [Act.put, List.setIfInBounds_toArray, List.set_cons_zero, List.set_cons_succ]
                refine g_take (i := 3) (d := (some 31)) (v := ?_) rfl rfl (by kernel_rfl) (fun _ _ _ h => h) (by rfl) (fun w' hb' => ?_) ?_
                rotate_left
                · (try go_simp); (try with_reducible rfl)
                try simp only [Act.put, List.setIfInBounds_toArray, List.set_cons_zero, List.set_cons_succ]
                refine g_take (i := 4) (d := (some 32)) (v := ?_) rfl rfl (by kernel_rfl) (fun _ _ _ h => h) (by rfl) (fun w' hb' => ?_) ?_
                rotate_left
                · (try go_simp); (try with_reducible rfl)
                try simp only [Act.put, List.setIfInBounds_toArray, List.set_cons_zero, List.set_cons_succ]
                refine g_take (i := 5) (d := (some 33)) (v := ?_) rfl rfl (by kernel_rfl) (fun _ _ _ h => h) (by rfl) (fun w' hb' => ?_) ?_
                rotate_left
                · (try go_simp); (try with_reducible rfl)
                try simp only [Act.put, List.setIfInBounds_toArray, List.set_cons_zero, List.set_cons_succ]
                refine g_take (i := 6) (d := (some 34)) (v := ?_) rfl rfl (by kernel_rfl) (fun _ _ _ h => h) (by rfl) (fun w' hb' => ?_) ?_
                rotate_left
                · (try go_simp); (try with_reducible rfl)
                try simp only [Act.put, List.setIfInBounds_toArray, List.set_cons_zero, List.set_cons_succ]
                refine g_take (i := 7) (d := (some 35)) (v := ?_) rfl rfl (by kernel_rfl) (fun _ _ _ h => h) (by rfl) (fun w' hb' => ?_) ?_
                rotate_left
                · (refine load_partO_op _ _ (.tmp 34) ?_ ?_ (sn_range (fun i hi => (hb'.cell (p := ⟨b, off + j * 36 + i, none⟩) hbs).trans (hcy i hi))) Tryd.underlying77 ?_ (infoSN y) <;> rfl); (try go_simp); (try with_reducible rfl)
                try simp only [Act.put, List.setIfInBounds_toArray, List.set_cons_zero, List.set_cons_succ]
                refine g_take (i := 8) (d := (some 36)) (v := ?_) rfl rfl (by kernel_rfl) (fun _ _ _ h => h) (by rfl) (fun w' hb' => ?_) ?_
                rotate_left
                · (refine load_row_op _ _ (.tmp 5) ?_ ?_ ((hb'.block _ (lt_of_block q5)).trans q5) Tryd.underlying77 ?_ (infoSN x) <;> rfl); (try go_simp); (try with_reducible rfl)
                try simp only [Act.put, List.setIfInBounds_toArray, List.set_cons_zero, List.set_cons_succ]
                refine g_run (i := 9) rfl (by kernel_rfl) (by rfl) (fun K hK => ?_)
                go_simp; refine (FO _ (Below.drew (Below.refl _ _))).mono ?_; rintro e u8 ⟨rfl, gg⟩; have bel := chain bel (Below.trans (Below.drew (Below.refl _ _)) gg); refine hK _ _ ⟨gg, ?_⟩; clear hK K gg
                try simp only [Act.put, List.setIfInBounds_toArray, List.set_cons_zero, List.set_cons_succ]
                refine g_take (i := 10) (d := (some 38)) (v := ?_) rfl rfl (by kernel_rfl) (fun _ _ _ h => h) (by rfl) (fun w' hb' => ?_) ?_
                rotate_left
                · (try go_simp); (try with_reducible rfl)
                try simp only [Act.put, List.setIfInBounds_toArray, List.set_cons_zero, List.set_cons_succ]
                refine g_take (i := 11) (d := (some 39)) (v := ?_) rfl rfl (by kernel_rfl) (fun _ _ _ h => h) (by rfl) (fun w' hb' => ?_) ?_
                rotate_left
                · (try go_simp); (try with_reducible rfl)
                try simp only [Act.put, List.setIfInBounds_toArray, List.set_cons_zero, List.set_cons_succ]
                refine g_take (i := 12) (d := (some 27)) (v := ?_) rfl rfl (by kernel_rfl) (fun _ _ _ h => h) (by rfl) (fun w' hb' => ?_) ?_
                rotate_left
                · (try go_simp); (try with_reducible rfl)
                try simp only [Act.put, List.setIfInBounds_toArray, List.set_cons_zero, List.set_cons_succ]
                refine g_done (by kernel_rfl) ?_
                go_wp2_with fail
                exact ⟨⟨k + 1, by omega, by push_cast; rfl, E, bel⟩, by simp [intOf]; omega⟩
      · obtain rfl : k = L.length := by omega
        have E := Lib.hid (show chk14 L = (0, 0) by rw [E0.out, Nat.sub_self]; rfl)
        go_wp2_with fail
        go_ret2
        exact ⟨by rw [HR.out, E.out]; rfl, bel⟩
def isSn (L : List Sn) : Bool := (chk14 L).1 == 0
theorem is14_any (v : Value) (L : List Sn) (w : World) (tab : TabAt w) (h : RdK 36 snC w v L) (hrs : RdSn w L) (hsz : SzSn L) (hln : LenSn L) :
    Calls Tryd.prog 83 #[v] w fun e w' => e = .returned (.bool (isSn L)) ∧ Below w.heap.size w w' := by
  have CK := check14_any v L w tab h hrs hsz hln
  obtain ⟨a, n, c, rfl⟩ : ∃ a n c, v = .slice a n c := by obtain ⟨a, c, e, _⟩ := h; exact ⟨_, _, _, e⟩
  obtain ⟨N, hN⟩ : ∃ N, N = (chk14 L).1 := ⟨_, rfl⟩
  obtain ⟨M, hM⟩ : ∃ N, N = (chk14 L).2 := ⟨_, rfl⟩
  unfold isSn
  rw [← hN, ← hM] at CK
  rw [← hN]
  clear hN hM h
  cases h0 : (N == 0) with
  | true =>
    have e0 : N = 0 := by simpa using h0
    subst e0
    clear h0
    go_enter Tryd.func83, Tryd.ntmps83
    go_wp2_with fail
    refine CK.mono ?_
    rintro e w2 ⟨rfl, g⟩
    go_wp2_with fail
    go_ret
    exact ⟨rfl, g⟩
  | false =>
    have e0 : N ≠ 0 := by simpa using h0
    have e1 : ((N : Int) == 0) = false := by simp; omega
    clear h0 e0
    go_enter Tryd.func83, Tryd.ntmps83
    go_wp2_with fail
    refine CK.mono ?_
    rintro e w2 ⟨rfl, g⟩
    go_wp2_with fail
    go_ret
    exact ⟨rfl, g⟩
end Go.Proofs.YtbdfcgffkonbiaaDoor
