/- Snaps: the document's Check, Is. Written by wip/tools/gen14d.py. -/
import Derived.Test.YtbdfcgffkonbiaaDoorQSN35
namespace Go.Proofs.YtbdfcgffkonbiaaDoor
open Go Go.RowKit
set_option linter.unusedVariables false
set_option linter.unusedSimpArgs false
theorem sn_q {w : World} {b o : Nat} {x : Sn} (h : ∀ i, i < 36 → w.cell? ⟨b, o + i, none⟩ = (snC x)[i]?) : w.cell? ⟨b, o, none⟩ = some (.int .i64 x.q) := by
  have h0 := h 0 (by omega)
  rw [Nat.add_zero] at h0
  rw [h0]; rfl
theorem sn_i {w : World} {b o : Nat} {x : Sn} (h : ∀ i, i < 36 → w.cell? ⟨b, o + i, none⟩ = (snC x)[i]?) (hx : RdS w (snA x) x.s) :
    w.cell? ⟨b, o + 33, none⟩ = some (.int .i64 x.s.ver) ∧ w.cell? ⟨b, o + 34, none⟩ = some (.int .i64 x.s.by_) ∧ w.cell? ⟨b, o + 35, none⟩ = some (.int .i64 x.s.ke) := by
  have f : ∀ i, (snC x)[i + 1]? = (snA x)[i]? := fun i => by have := snV_at x i; simpa [snV] using this
  exact ⟨(h 33 (by omega)).trans ((f 32).trans hx.ver), (h 34 (by omega)).trans ((f 33).trans hx.by_), (h 35 (by omega)).trans ((f 34).trans hx.ke)⟩
set_option maxRecDepth 100000 in
set_option maxHeartbeats 4000000 in
theorem refCheck14_any (v : Value) (L : List Sn) (w : World) (tab : TabAt w) (h : RdK 36 snC w v L) (hrs : RdSn w L) (hsz : SzSn L) (hln : LenSn L) :
    Calls Tryd.prog 40 #[v] w fun e w' => e = .returned (.tuple #[.int .i64 ((chk14 L).1 : Int), .int .i64 ((chk14 L).2 : Int)]) ∧ Below w.heap.size w w' := by
  obtain ⟨ao, cap, rfl, hc, hm, hr⟩ := RdK.open h
  obtain ⟨R, hR⟩ : ∃ R, R = Ending.returned (.tuple #[.int .i64 ((chk14 L).1 : Int), .int .i64 ((chk14 L).2 : Int)]) := ⟨_, rfl⟩
  rw [← hR]
  have HR := Lib.hid hR
  clear h hR
  by_cases hbig : 8 < L.length
  · have E := Lib.hid (show chk14 L = (5, 8) by unfold chk14; rw [if_pos hbig])
    clear hr hrs hsz hln
    go_enter Tryd.func40, Tryd.ntmps40
    go_wp2_with fail
    go_ret2
    exact ⟨by rw [HR.out, E.out]; rfl, Below.refl _ _⟩
  · have hr : RdK 36 snC w (.slice ao L.length cap) L := hr
    have S0 := Lib.hid (show chk14 L = badGo L (L.length - 0) 0 by unfold chk14; rw [if_neg hbig]; rfl)
    have HRD := Lib.hid hr
    have HRS := Lib.hid hrs
    have HSZ := Lib.hid hsz
    have HLN := Lib.hid hln
    clear hr hrs hsz hln
    go_enter Tryd.func40, Tryd.ntmps40
    go_wp2_with fail
    go_loopw [4] (fun i wr => ∃ k : Nat, k ≤ L.length ∧ i = .int .i64 (k : Int) ∧ Hid (chk14 L = badGo L (L.length - k) k) ∧ Below w.heap.size w wr) (fun i _ => 100 - (intOf i).toNat)
    case atStart => exact ⟨0, Nat.zero_le _, rfl, S0, Below.refl _ _⟩
    case round =>
      obtain ⟨k, hk, rfl, E0, bel⟩ := hrel
      by_cases hlt : k < L.length
      · obtain ⟨b, off, rfl, hb, hcx0⟩ := RdK.cell snC_len (HRD.out.below bel (Nat.le_refl _)) k hlt
        obtain ⟨x, hx⟩ : ∃ x, x = L[k]'hlt := ⟨_, rfl⟩
        rw [← hx] at hcx0
        have hcx : ∀ i, i < 36 → wr.cell? ⟨b, off + k * 36 + i, none⟩ = (snC x)[i]? := fun i hi => by rw [Nat.add_assoc]; exact hcx0 i hi
        have hmx : x ∈ L := by rw [hx]; exact List.getElem_mem _
        have RS := sn_store hcx
        have cq := sn_q hcx
        have MY0 := fun W (g : Below w.heap.size w W) => refMay13_any (snA x) x.s W (tab.below g) ((HRS.out x hmx).below g (Nat.le_refl _)) (HSZ.out x hmx).1 (HSZ.out x hmx).2 (HLN.out x hmx)
        have HX := Lib.hid hx
        have HCX := Lib.hid hcx
        clear hx hcx0 hcx
        by_cases hq : x.q < 0
        · have t0 : decide (x.q < 0) = true := decide_eq_true hq
          have E := Lib.hid (show chk14 L = (1, k) by rw [E0.out]; exact badGo_bad hlt (bad_q hlt (by rw [← HX.out]; exact hq)) (by decide))
          clear hq E0 MY0
          go_wp2_with fail
          go_ret2
          exact ⟨by rw [HR.out, E.out]; rfl, bel⟩
        · have t0 : decide (x.q < 0) = false := decide_eq_false hq
          have HQ := Lib.hid hq
          clear hq
          cases hmy : mayS x.s with
          | false =>
            rw [hmy] at MY0
            have MY := Lib.hid MY0
            have E := Lib.hid (show chk14 L = (1, k) by rw [E0.out]; exact badGo_bad hlt (bad_may hlt (by rw [← HX.out]; exact hmy)) (by decide))
            clear hmy E0 MY0
            go_wp2_with ((with_reducible refine wpList_load_part_g (o := ⟨some 25, _, _, _, _, _⟩) ?_ 28 (.tmp 24) rfl _ (off + k * 36 + 1) rfl (snA x) _ RS Tryd.underlying28 rfl (infoSA x) ?_); rfl)
            refine (MY.out _ bel).mono ?_
            rintro e w2 ⟨rfl, g⟩
            have hb := Nat.lt_of_lt_of_le hb g.size
            have bel := chain bel g
            have GW := Lib.hid g
            clear g
            go_wp2_with fail
            go_ret2
            exact ⟨by rw [HR.out, E.out]; rfl, bel⟩
          | true =>
            rw [hmy] at MY0
            have MY := Lib.hid MY0
            have HMY := Lib.hid hmy
            clear hmy MY0
            by_cases h0 : k = 0
            · have E := Lib.hid (show chk14 L = badGo L (L.length - (k + 1)) (k + 1) by
                have h := E0.out
                subst h0
                rw [h]; exact badGo_next hlt (bad_no0 hlt (by rw [← HX.out]; have h9 := HQ.out; omega) (by rw [← HX.out]; exact HMY.out)))
              have f3 : decide (0 < (k : Int)) = false := by simp; omega
              have f3n : decide (0 < k) = false := by simp; omega
              clear E0 h0
              go_wp2_with ((with_reducible refine wpList_load_part_g (o := ⟨some 25, _, _, _, _, _⟩) ?_ 28 (.tmp 24) rfl _ (off + k * 36 + 1) rfl (snA x) _ RS Tryd.underlying28 rfl (infoSA x) ?_); rfl)
              refine (MY.out _ bel).mono ?_
              rintro e w2 ⟨rfl, g⟩
              have hb := Nat.lt_of_lt_of_le hb g.size
              have bel := chain bel g
              have GW := Lib.hid g
              clear g
              go_wp2_with fail
              refine g_start (by kernel_rfl) ?_
              refine g_take (i := 0) (d := (some 30)) (v := ?_) rfl rfl (by kernel_rfl) (fun _ _ _ h => h) (by rfl) (fun w' hb' => ?_) ?_
              rotate_left
              · (try go_simp); (try with_reducible rfl)
              try simp only [Act.put, List.setIfInBounds_toArray, List.set_cons_zero, List.set_cons_succ]
              refine g_take (i := 1) (d := (some 31)) (v := ?_) rfl rfl (by kernel_rfl) (fun _ _ _ h => h) (by rfl) (fun w' hb' => ?_) ?_
              rotate_left
              · (try go_simp); (try with_reducible rfl)
              try simp only [Act.put, List.setIfInBounds_toArray, List.set_cons_zero, List.set_cons_succ]
              refine g_take (i := 2) (d := (some 32)) (v := ?_) rfl rfl (by kernel_rfl) (fun _ _ _ h => h) (by rfl) (fun w' hb' => ?_) ?_
              rotate_left
              · (try go_simp); (try with_reducible rfl)
              try simp only [Act.put, List.setIfInBounds_toArray, List.set_cons_zero, List.set_cons_succ]
              refine g_skip (i := 3) (d := (some 33)) rfl rfl (by kernel_rfl) (fun _ _ _ h => h) (by rfl) ?_
              try simp only [Act.put, List.setIfInBounds_toArray, List.set_cons_zero, List.set_cons_succ]
              refine g_skip (i := 4) (d := (some 34)) rfl rfl (by kernel_rfl) (fun _ _ _ h => h) (by rfl) ?_
              try simp only [Act.put, List.setIfInBounds_toArray, List.set_cons_zero, List.set_cons_succ]
              refine g_skip (i := 5) (d := (some 35)) rfl rfl (by kernel_rfl) (fun _ _ _ h => h) (by rfl) ?_
              try simp only [Act.put, List.setIfInBounds_toArray, List.set_cons_zero, List.set_cons_succ]
              refine g_skip (i := 6) (d := (some 36)) rfl rfl (by kernel_rfl) (fun _ _ _ h => h) (by rfl) ?_
              try simp only [Act.put, List.setIfInBounds_toArray, List.set_cons_zero, List.set_cons_succ]
              refine g_skip (i := 7) (d := (some 37)) rfl rfl (by kernel_rfl) (fun _ _ _ h => h) (by rfl) ?_
              try simp only [Act.put, List.setIfInBounds_toArray, List.set_cons_zero, List.set_cons_succ]
              refine g_skip (i := 8) (d := (some 38)) rfl rfl (by kernel_rfl) (fun _ _ _ h => h) (by rfl) ?_
              try simp only [Act.put, List.setIfInBounds_toArray, List.set_cons_zero, List.set_cons_succ]
              refine g_skip (i := 9) (d := (some 39)) rfl rfl (by kernel_rfl) (fun _ _ _ h => h) (by rfl) ?_
              try simp only [Act.put, List.setIfInBounds_toArray, List.set_cons_zero, List.set_cons_succ]
              refine g_skip (i := 10) (d := (some 40)) rfl rfl (by kernel_rfl) (fun _ _ _ h => h) (by rfl) ?_
              try simp only [Act.put, List.setIfInBounds_toArray, List.set_cons_zero, List.set_cons_succ]
              refine g_skip (i := 11) (d := (some 41)) rfl rfl (by kernel_rfl) (fun _ _ _ h => h) (by rfl) ?_
              try simp only [Act.put, List.setIfInBounds_toArray, List.set_cons_zero, List.set_cons_succ]
              refine g_skip (i := 12) (d := (some 42)) rfl rfl (by kernel_rfl) (fun _ _ _ h => h) (by rfl) ?_
              try simp only [Act.put, List.setIfInBounds_toArray, List.set_cons_zero, List.set_cons_succ]
              refine g_skip (i := 13) (d := (some 43)) rfl rfl (by kernel_rfl) (fun _ _ _ h => h) (by rfl) ?_
              try simp only [Act.put, List.setIfInBounds_toArray, List.set_cons_zero, List.set_cons_succ]
              refine g_skip (i := 14) (d := (some 44)) rfl rfl (by kernel_rfl) (fun _ _ _ h => h) (by rfl) ?_
              try simp only [Act.put, List.setIfInBounds_toArray, List.set_cons_zero, List.set_cons_succ]
              refine g_skip (i := 15) (d := (some 45)) rfl rfl (by kernel_rfl) (fun _ _ _ h => h) (by rfl) ?_
              try simp only [Act.put, List.setIfInBounds_toArray, List.set_cons_zero, List.set_cons_succ]
              refine g_skip (i := 16) (d := (some 46)) rfl rfl (by kernel_rfl) (fun _ _ _ h => h) (by rfl) ?_
              try simp only [Act.put, List.setIfInBounds_toArray, List.set_cons_zero, List.set_cons_succ]
              refine g_skip (i := 17) (d := (some 47)) rfl rfl (by kernel_rfl) (fun _ _ _ h => h) (by rfl) ?_
              try simp only [Act.put, List.setIfInBounds_toArray, List.set_cons_zero, List.set_cons_succ]
              refine g_skip (i := 18) (d := (some 48)) rfl rfl (by kernel_rfl) (fun _ _ _ h => h) (by rfl) ?_
              try simp only [Act.put, List.setIfInBounds_toArray, List.set_cons_zero, List.set_cons_succ]
              refine g_skip (i := 19) (d := (some 49)) rfl rfl (by kernel_rfl) (fun _ _ _ h => h) (by rfl) ?_
              try simp only [Act.put, List.setIfInBounds_toArray, List.set_cons_zero, List.set_cons_succ]
              refine g_skip (i := 20) (d := (some 50)) rfl rfl (by kernel_rfl) (fun _ _ _ h => h) (by rfl) ?_
              try simp only [Act.put, List.setIfInBounds_toArray, List.set_cons_zero, List.set_cons_succ]
              refine g_skip (i := 21) (d := (some 51)) rfl rfl (by kernel_rfl) (fun _ _ _ h => h) (by rfl) ?_
              try simp only [Act.put, List.setIfInBounds_toArray, List.set_cons_zero, List.set_cons_succ]
              refine g_skip (i := 22) (d := (some 52)) rfl rfl (by kernel_rfl) (fun _ _ _ h => h) (by rfl) ?_
              try simp only [Act.put, List.setIfInBounds_toArray, List.set_cons_zero, List.set_cons_succ]
              refine g_skip (i := 23) (d := (some 53)) rfl rfl (by kernel_rfl) (fun _ _ _ h => h) (by rfl) ?_
              try simp only [Act.put, List.setIfInBounds_toArray, List.set_cons_zero, List.set_cons_succ]
              refine g_skip (i := 24) (d := (some 54)) rfl rfl (by kernel_rfl) (fun _ _ _ h => h) (by rfl) ?_
              try simp only [Act.put, List.setIfInBounds_toArray, List.set_cons_zero, List.set_cons_succ]
              refine g_skip (i := 25) (d := (some 55)) rfl rfl (by kernel_rfl) (fun _ _ _ h => h) (by rfl) ?_
              try simp only [Act.put, List.setIfInBounds_toArray, List.set_cons_zero, List.set_cons_succ]
              refine g_skip (i := 26) (d := (some 56)) rfl rfl (by kernel_rfl) (fun _ _ _ h => h) (by rfl) ?_
              try simp only [Act.put, List.setIfInBounds_toArray, List.set_cons_zero, List.set_cons_succ]
              refine g_skip (i := 27) (d := (some 57)) rfl rfl (by kernel_rfl) (fun _ _ _ h => h) (by rfl) ?_
              try simp only [Act.put, List.setIfInBounds_toArray, List.set_cons_zero, List.set_cons_succ]
              refine g_skip (i := 28) (d := (some 58)) rfl rfl (by kernel_rfl) (fun _ _ _ h => h) (by rfl) ?_
              try simp only [Act.put, List.setIfInBounds_toArray, List.set_cons_zero, List.set_cons_succ]
              refine g_skip (i := 29) (d := (some 59)) rfl rfl (by kernel_rfl) (fun _ _ _ h => h) (by rfl) ?_
              try simp only [Act.put, List.setIfInBounds_toArray, List.set_cons_zero, List.set_cons_succ]
              refine g_skip (i := 30) (d := (some 60)) rfl rfl (by kernel_rfl) (fun _ _ _ h => h) (by rfl) ?_
              try simp only [Act.put, List.setIfInBounds_toArray, List.set_cons_zero, List.set_cons_succ]
              refine g_skip (i := 31) (d := (some 61)) rfl rfl (by kernel_rfl) (fun _ _ _ h => h) (by rfl) ?_
              try simp only [Act.put, List.setIfInBounds_toArray, List.set_cons_zero, List.set_cons_succ]
              refine g_skip (i := 32) (d := (some 62)) rfl rfl (by kernel_rfl) (fun _ _ _ h => h) (by rfl) ?_
              try simp only [Act.put, List.setIfInBounds_toArray, List.set_cons_zero, List.set_cons_succ]
              refine g_skip (i := 33) (d := (some 63)) rfl rfl (by kernel_rfl) (fun _ _ _ h => h) (by rfl) ?_
              try simp only [Act.put, List.setIfInBounds_toArray, List.set_cons_zero, List.set_cons_succ]
              refine g_skip (i := 34) (d := (some 64)) rfl rfl (by kernel_rfl) (fun _ _ _ h => h) (by rfl) ?_
              try simp only [Act.put, List.setIfInBounds_toArray, List.set_cons_zero, List.set_cons_succ]
              refine g_skip (i := 35) (d := (some 65)) rfl rfl (by kernel_rfl) (fun _ _ _ h => h) (by rfl) ?_
              try simp only [Act.put, List.setIfInBounds_toArray, List.set_cons_zero, List.set_cons_succ]
              refine g_skip (i := 36) (d := (some 66)) rfl rfl (by kernel_rfl) (fun _ _ _ h => h) (by rfl) ?_
              try simp only [Act.put, List.setIfInBounds_toArray, List.set_cons_zero, List.set_cons_succ]
              refine g_skip (i := 37) (d := (some 67)) rfl rfl (by kernel_rfl) (fun _ _ _ h => h) (by rfl) ?_
              try simp only [Act.put, List.setIfInBounds_toArray, List.set_cons_zero, List.set_cons_succ]
              refine g_skip (i := 38) (d := (some 68)) rfl rfl (by kernel_rfl) (fun _ _ _ h => h) (by rfl) ?_
              try simp only [Act.put, List.setIfInBounds_toArray, List.set_cons_zero, List.set_cons_succ]
              refine g_skip (i := 39) (d := (some 69)) rfl rfl (by kernel_rfl) (fun _ _ _ h => h) (by rfl) ?_
              try simp only [Act.put, List.setIfInBounds_toArray, List.set_cons_zero, List.set_cons_succ]
              refine g_skip (i := 40) (d := (some 70)) rfl rfl (by kernel_rfl) (fun _ _ _ h => h) (by rfl) ?_
              try simp only [Act.put, List.setIfInBounds_toArray, List.set_cons_zero, List.set_cons_succ]
              refine g_skip (i := 41) (d := (some 71)) rfl rfl (by kernel_rfl) (fun _ _ _ h => h) (by rfl) ?_
              try simp only [Act.put, List.setIfInBounds_toArray, List.set_cons_zero, List.set_cons_succ]
              refine g_skip (i := 42) (d := (some 72)) rfl rfl (by kernel_rfl) (fun _ _ _ h => h) (by rfl) ?_
              try simp only [Act.put, List.setIfInBounds_toArray, List.set_cons_zero, List.set_cons_succ]
              refine g_skip (i := 43) (d := (some 73)) rfl rfl (by kernel_rfl) (fun _ _ _ h => h) (by rfl) ?_
              try simp only [Act.put, List.setIfInBounds_toArray, List.set_cons_zero, List.set_cons_succ]
              refine g_skip (i := 44) (d := (some 74)) rfl rfl (by kernel_rfl) (fun _ _ _ h => h) (by rfl) ?_
              try simp only [Act.put, List.setIfInBounds_toArray, List.set_cons_zero, List.set_cons_succ]
              refine g_skip (i := 45) (d := (some 75)) rfl rfl (by kernel_rfl) (fun _ _ _ h => h) (by rfl) ?_
              try simp only [Act.put, List.setIfInBounds_toArray, List.set_cons_zero, List.set_cons_succ]
              refine g_skip (i := 46) (d := (some 76)) rfl rfl (by kernel_rfl) (fun _ _ _ h => h) (by rfl) ?_
              try simp only [Act.put, List.setIfInBounds_toArray, List.set_cons_zero, List.set_cons_succ]
              refine g_skip (i := 47) (d := (some 77)) rfl rfl (by kernel_rfl) (fun _ _ _ h => h) (by rfl) ?_
              try simp only [Act.put, List.setIfInBounds_toArray, List.set_cons_zero, List.set_cons_succ]
              refine g_skip (i := 48) (d := (some 78)) rfl rfl (by kernel_rfl) (fun _ _ _ h => h) (by rfl) ?_
              try simp only [Act.put, List.setIfInBounds_toArray, List.set_cons_zero, List.set_cons_succ]
              refine g_skip (i := 49) (d := (some 79)) rfl rfl (by kernel_rfl) (fun _ _ _ h => h) (by rfl) ?_
              try simp only [Act.put, List.setIfInBounds_toArray, List.set_cons_zero, List.set_cons_succ]
              refine g_skip (i := 50) (d := (some 80)) rfl rfl (by kernel_rfl) (fun _ _ _ h => h) (by rfl) ?_
              try simp only [Act.put, List.setIfInBounds_toArray, List.set_cons_zero, List.set_cons_succ]
              refine g_skip (i := 51) (d := (some 81)) rfl rfl (by kernel_rfl) (fun _ _ _ h => h) (by rfl) ?_
              try simp only [Act.put, List.setIfInBounds_toArray, List.set_cons_zero, List.set_cons_succ]
              refine g_skip (i := 52) (d := (some 82)) rfl rfl (by kernel_rfl) (fun _ _ _ h => h) (by rfl) ?_
              try simp only [Act.put, List.setIfInBounds_toArray, List.set_cons_zero, List.set_cons_succ]
              refine g_skip (i := 53) (d := (some 83)) rfl rfl (by kernel_rfl) (fun _ _ _ h => h) (by rfl) ?_
              try simp only [Act.put, List.setIfInBounds_toArray, List.set_cons_zero, List.set_cons_succ]
              refine g_skip (i := 54) (d := (some 84)) rfl rfl (by kernel_rfl) (fun _ _ _ h => h) (by rfl) ?_
              try simp only [Act.put, List.setIfInBounds_toArray, List.set_cons_zero, List.set_cons_succ]
              refine g_skip (i := 55) (d := (some 85)) rfl rfl (by kernel_rfl) (fun _ _ _ h => h) (by rfl) ?_
              try simp only [Act.put, List.setIfInBounds_toArray, List.set_cons_zero, List.set_cons_succ]
              refine g_skip (i := 56) (d := (some 86)) rfl rfl (by kernel_rfl) (fun _ _ _ h => h) (by rfl) ?_
              try simp only [Act.put, List.setIfInBounds_toArray, List.set_cons_zero, List.set_cons_succ]
              refine g_skip (i := 57) (d := (some 87)) rfl rfl (by kernel_rfl) (fun _ _ _ h => h) (by rfl) ?_
              try simp only [Act.put, List.setIfInBounds_toArray, List.set_cons_zero, List.set_cons_succ]
              refine g_skip (i := 58) (d := (some 88)) rfl rfl (by kernel_rfl) (fun _ _ _ h => h) (by rfl) ?_
              try simp only [Act.put, List.setIfInBounds_toArray, List.set_cons_zero, List.set_cons_succ]
              refine g_skip (i := 59) (d := (some 89)) rfl rfl (by kernel_rfl) (fun _ _ _ h => h) (by rfl) ?_
              try simp only [Act.put, List.setIfInBounds_toArray, List.set_cons_zero, List.set_cons_succ]
              refine g_skip (i := 60) (d := (some 90)) rfl rfl (by kernel_rfl) (fun _ _ _ h => h) (by rfl) ?_
              try simp only [Act.put, List.setIfInBounds_toArray, List.set_cons_zero, List.set_cons_succ]
              refine g_skip (i := 61) (d := (some 91)) rfl rfl (by kernel_rfl) (fun _ _ _ h => h) (by rfl) ?_
              try simp only [Act.put, List.setIfInBounds_toArray, List.set_cons_zero, List.set_cons_succ]
              refine g_skip (i := 62) (d := (some 92)) rfl rfl (by kernel_rfl) (fun _ _ _ h => h) (by rfl) ?_
              try simp only [Act.put, List.setIfInBounds_toArray, List.set_cons_zero, List.set_cons_succ]
              refine g_skip (i := 63) (d := (some 93)) rfl rfl (by kernel_rfl) (fun _ _ _ h => h) (by rfl) ?_
              try simp only [Act.put, List.setIfInBounds_toArray, List.set_cons_zero, List.set_cons_succ]
              refine g_take (i := 64) (d := (some 94)) (v := ?_) rfl rfl (by kernel_rfl) (fun _ _ _ h => h) (by rfl) (fun w' hb' => ?_) ?_
              rotate_left
              · (try go_simp); (try with_reducible rfl)
              try simp only [Act.put, List.setIfInBounds_toArray, List.set_cons_zero, List.set_cons_succ]
              refine g_done (by kernel_rfl) ?_
              go_wp2_with fail
              exact ⟨⟨k + 1, by omega, by push_cast; rfl, E, bel.drew⟩, by simp [intOf]; omega⟩
            · obtain ⟨j, hj⟩ : ∃ j, k = j + 1 := ⟨k - 1, by omega⟩
              have hjl : j < L.length := by omega
              obtain ⟨y, hy⟩ : ∃ y, y = L[j]'hjl := ⟨_, rfl⟩
              have hmy2 : y ∈ L := by rw [hy]; exact List.getElem_mem _
              have f1 : IntKind.i64.wrap ((k : Int) - 1) = (j : Int) := by rw [IntKind.wrap_i64]; omega
              have f2 : (k : Int) - 1 = (j : Int) := by omega
              have f5 : IntKind.i64.wrap (j : Int) = (j : Int) := by rw [IntKind.wrap_i64]; omega
              have f3 : decide (0 < (k : Int)) = true := by simp; omega
              have f3n : decide (0 < k) = true := by simp; omega
              have f4 : (j : Int) < L.length := by omega
              have HY := Lib.hid hy
              have HJ := Lib.hid hj
              clear h0 hj hy
              go_wp2_with ((with_reducible refine wpList_load_part_g (o := ⟨some 25, _, _, _, _, _⟩) ?_ 28 (.tmp 24) rfl _ (off + k * 36 + 1) rfl (snA x) _ RS Tryd.underlying28 rfl (infoSA x) ?_); rfl)
              refine (MY.out _ bel).mono ?_
              rintro e w2 ⟨rfl, g⟩
              have hb := Nat.lt_of_lt_of_le hb g.size
              have bel := chain bel g
              have GW := Lib.hid g
              clear g
              obtain ⟨b2, off2, hbo, hbs, hcy0⟩ := RdK.cell snC_len (HRD.out.below bel (Nat.le_refl _)) j hjl
              cases hbo
              rw [← HY.out] at hcy0
              have hcy : ∀ i, i < 36 → w2.cell? ⟨b, off + j * 36 + i, none⟩ = (snC y)[i]? := fun i hi => by rw [Nat.add_assoc]; exact hcy0 i hi
              have hcx2 : ∀ i, i < 36 → w2.cell? ⟨b, off + k * 36 + i, none⟩ = (snC x)[i]? := fun i hi => (GW.out.cell (p := ⟨b, off + k * 36 + i, none⟩) (World.block_lt_of_cell? _ ⟨b, off + k * 36 + i, none⟩ ((HCX.out i hi).trans (List.getElem?_eq_getElem (by rw [snC_len]; exact hi))))).trans (HCX.out i hi)
              have qj := sn_q hcy
              have qk := sn_q hcx2
              obtain ⟨vj, bj, ej⟩ := sn_i hcy ((HRS.out y hmy2).below bel (Nat.le_refl _))
              obtain ⟨vk, bk, ek⟩ := sn_i hcx2 ((HRS.out x hmx).below bel (Nat.le_refl _))
              obtain ⟨B9, hB9⟩ : ∃ B, B = folB y x := ⟨_, rfl⟩
              unfold folB at hB9
              obtain ⟨QY, hQY⟩ : ∃ z, z = y.q := ⟨_, rfl⟩
              obtain ⟨QX, hQX⟩ : ∃ z, z = x.q := ⟨_, rfl⟩
              obtain ⟨VY, hVY⟩ : ∃ z, z = y.s.ver := ⟨_, rfl⟩
              obtain ⟨VX, hVX⟩ : ∃ z, z = x.s.ver := ⟨_, rfl⟩
              obtain ⟨BY, hBY⟩ : ∃ z, z = y.s.by_ := ⟨_, rfl⟩
              obtain ⟨BX, hBX⟩ : ∃ z, z = x.s.by_ := ⟨_, rfl⟩
              obtain ⟨KY, hKY⟩ : ∃ z, z = y.s.ke := ⟨_, rfl⟩
              obtain ⟨KX, hKX⟩ : ∃ z, z = x.s.ke := ⟨_, rfl⟩
              have HFO := Lib.hid (show folB y x = (decide (QY < QX) && decide (VY ≤ VX) && decide (BY = BX) && decide (KY = KX)) by unfold folB; rw [hQY, hQX, hVY, hVX, hBY, hBX, hKY, hKX]; congr 1; congr 1; exact decide_eq_decide.2 ⟨fun h => h.symm, fun h => h.symm⟩; exact decide_eq_decide.2 ⟨fun h => h.symm, fun h => h.symm⟩)
              rw [← hQY] at qj
              rw [← hVY] at vj
              rw [← hBY] at bj
              rw [← hKY] at ej
              rw [← hQX] at qk
              rw [← hVX] at vk
              rw [← hBX] at bk
              rw [← hKX] at ek
              clear hcy hcy0 hcx2 hQY hQX hVY hVX hBY hBX hKY hKX hB9 cq t0
              by_cases k0 : QY < QX
              · have t0 : decide (QY < QX) = true := decide_eq_true k0
                by_cases k1 : VY ≤ VX
                · have t1 : decide (VY ≤ VX) = true := decide_eq_true k1
                  by_cases k2 : BY = BX
                  · have t2 : decide (BY = BX) = true := decide_eq_true k2
                    have s2 : (BY == BX) = true := by simp [k2]
                    by_cases k3 : KY = KX
                    · have t3 : decide (KY = KX) = true := decide_eq_true k3
                      have s3 : (KY == KX) = true := by simp [k3]
                      have E := Lib.hid (show chk14 L = badGo L (L.length - (k + 1)) (k + 1) by
                        have h := E0.out
                        have hj := HJ.out
                        subst hj
                        rw [h]; exact badGo_next hlt (bad_no hlt (by rw [← HX.out]; have h9 := HQ.out; omega) (by rw [← HX.out]; exact HMY.out) (by rw [← HX.out, ← HY.out, HFO.out]; simp [t0, t1, t2, t3])))
                      clear E0
                      go_wp2_with fail
                      refine g_start (by kernel_rfl) ?_
                      refine g_take (i := 0) (d := (some 30)) (v := ?_) rfl rfl (by kernel_rfl) (fun _ _ _ h => h) (by rfl) (fun w' hb' => ?_) ?_
                      rotate_left
                      · (try go_simp); (try with_reducible rfl)
                      try simp only [Act.put, List.setIfInBounds_toArray, List.set_cons_zero, List.set_cons_succ]
                      refine g_take (i := 1) (d := (some 31)) (v := ?_) rfl rfl (by kernel_rfl) (fun _ _ _ h => h) (by rfl) (fun w' hb' => ?_) ?_
                      rotate_left
                      · (try go_simp); (try with_reducible rfl)
                      try simp only [Act.put, List.setIfInBounds_toArray, List.set_cons_zero, List.set_cons_succ]
                      refine g_take (i := 2) (d := (some 32)) (v := ?_) rfl rfl (by kernel_rfl) (fun _ _ _ h => h) (by rfl) (fun w' hb' => ?_) ?_
                      rotate_left
                      · (try go_simp); (try with_reducible rfl)
                      try simp only [Act.put, List.setIfInBounds_toArray, List.set_cons_zero, List.set_cons_succ]
                      refine g_take (i := 3) (d := (some 33)) (v := ?_) rfl rfl (by kernel_rfl) (fun _ _ _ h => h) (by rfl) (fun w' hb' => ?_) ?_
                      rotate_left
                      · (try go_simp); (try with_reducible rfl)
                      try simp only [Act.put, List.setIfInBounds_toArray, List.set_cons_zero, List.set_cons_succ]
                      refine g_take (i := 4) (d := (some 34)) (v := ?_) rfl rfl (by kernel_rfl) (fun _ _ _ h => h) (by rfl) (fun w' hb' => ?_) ?_
                      rotate_left
                      · (try go_simp); (try with_reducible rfl)
                      try simp only [Act.put, List.setIfInBounds_toArray, List.set_cons_zero, List.set_cons_succ]
                      refine g_take (i := 5) (d := (some 35)) (v := ?_) rfl rfl (by kernel_rfl) (fun _ _ _ h => h) (by rfl) (fun w' hb' => ?_) ?_
                      rotate_left
                      · (try go_simp); (try with_reducible rfl)
                      try simp only [Act.put, List.setIfInBounds_toArray, List.set_cons_zero, List.set_cons_succ]
                      refine g_take (i := 6) (d := (some 36)) (v := ?_) rfl rfl (by kernel_rfl) (fun _ _ _ h => h) (by rfl) (fun w' hb' => ?_) ?_
                      rotate_left
                      · (try go_simp); (try with_reducible rfl)
                      try simp only [Act.put, List.setIfInBounds_toArray, List.set_cons_zero, List.set_cons_succ]
                      refine g_take (i := 7) (d := (some 37)) (v := ?_) rfl rfl (by kernel_rfl) (fun _ _ _ h => h) (by rfl) (fun w' hb' => ?_) ?_
                      rotate_left
                      · (try go_simp); (try with_reducible rfl)
                      try simp only [Act.put, List.setIfInBounds_toArray, List.set_cons_zero, List.set_cons_succ]
                      refine g_take (i := 8) (d := (some 38)) (v := ?_) rfl rfl (by kernel_rfl) (fun _ _ _ h => h) (by rfl) (fun w' hb' => ?_) ?_
                      rotate_left
                      · have zz := (hb'.cell (p := ⟨b, off + j * 36, none⟩) hbs).trans qj; (try go_simp); (try with_reducible rfl)
                      try simp only [Act.put, List.setIfInBounds_toArray, List.set_cons_zero, List.set_cons_succ]
                      refine g_take (i := 9) (d := (some 39)) (v := ?_) rfl rfl (by kernel_rfl) (fun _ _ _ h => h) (by rfl) (fun w' hb' => ?_) ?_
                      rotate_left
                      · (try go_simp); (try with_reducible rfl)
                      try simp only [Act.put, List.setIfInBounds_toArray, List.set_cons_zero, List.set_cons_succ]
                      refine g_take (i := 10) (d := (some 40)) (v := ?_) rfl rfl (by kernel_rfl) (fun _ _ _ h => h) (by rfl) (fun w' hb' => ?_) ?_
                      rotate_left
                      · (try go_simp); (try with_reducible rfl)
                      try simp only [Act.put, List.setIfInBounds_toArray, List.set_cons_zero, List.set_cons_succ]
                      refine g_take (i := 11) (d := (some 41)) (v := ?_) rfl rfl (by kernel_rfl) (fun _ _ _ h => h) (by rfl) (fun w' hb' => ?_) ?_
                      rotate_left
                      · (try go_simp); (try with_reducible rfl)
                      try simp only [Act.put, List.setIfInBounds_toArray, List.set_cons_zero, List.set_cons_succ]
                      refine g_take (i := 12) (d := (some 42)) (v := ?_) rfl rfl (by kernel_rfl) (fun _ _ _ h => h) (by rfl) (fun w' hb' => ?_) ?_
                      rotate_left
                      · (try go_simp); (try with_reducible rfl)
                      try simp only [Act.put, List.setIfInBounds_toArray, List.set_cons_zero, List.set_cons_succ]
                      refine g_take (i := 13) (d := (some 43)) (v := ?_) rfl rfl (by kernel_rfl) (fun _ _ _ h => h) (by rfl) (fun w' hb' => ?_) ?_
                      rotate_left
                      · have zz := (hb'.cell (p := ⟨b, off + k * 36, none⟩) hbs).trans qk; (try go_simp); (try with_reducible rfl)
                      try simp only [Act.put, List.setIfInBounds_toArray, List.set_cons_zero, List.set_cons_succ]
                      refine g_take (i := 14) (d := (some 44)) (v := ?_) rfl rfl (by kernel_rfl) (fun _ _ _ h => h) (by rfl) (fun w' hb' => ?_) ?_
                      rotate_left
                      · (try go_simp); (try with_reducible rfl)
                      try simp only [Act.put, List.setIfInBounds_toArray, List.set_cons_zero, List.set_cons_succ]
                      refine g_take (i := 15) (d := (some 45)) (v := ?_) rfl rfl (by kernel_rfl) (fun _ _ _ h => h) (by rfl) (fun w' hb' => ?_) ?_
                      rotate_left
                      · (try go_simp); (try with_reducible rfl)
                      try simp only [Act.put, List.setIfInBounds_toArray, List.set_cons_zero, List.set_cons_succ]
                      refine g_take (i := 16) (d := (some 46)) (v := ?_) rfl rfl (by kernel_rfl) (fun _ _ _ h => h) (by rfl) (fun w' hb' => ?_) ?_
                      rotate_left
                      · (try go_simp); (try with_reducible rfl)
                      try simp only [Act.put, List.setIfInBounds_toArray, List.set_cons_zero, List.set_cons_succ]
                      refine g_take (i := 17) (d := (some 47)) (v := ?_) rfl rfl (by kernel_rfl) (fun _ _ _ h => h) (by rfl) (fun w' hb' => ?_) ?_
                      rotate_left
                      · (try go_simp); (try with_reducible rfl)
                      try simp only [Act.put, List.setIfInBounds_toArray, List.set_cons_zero, List.set_cons_succ]
                      refine g_take (i := 18) (d := (some 48)) (v := ?_) rfl rfl (by kernel_rfl) (fun _ _ _ h => h) (by rfl) (fun w' hb' => ?_) ?_
                      rotate_left
                      · (try go_simp); (try with_reducible rfl)
                      try simp only [Act.put, List.setIfInBounds_toArray, List.set_cons_zero, List.set_cons_succ]
                      refine g_take (i := 19) (d := (some 49)) (v := ?_) rfl rfl (by kernel_rfl) (fun _ _ _ h => h) (by rfl) (fun w' hb' => ?_) ?_
                      rotate_left
                      · (try go_simp); (try with_reducible rfl)
                      try simp only [Act.put, List.setIfInBounds_toArray, List.set_cons_zero, List.set_cons_succ]
                      refine g_take (i := 20) (d := (some 50)) (v := ?_) rfl rfl (by kernel_rfl) (fun _ _ _ h => h) (by rfl) (fun w' hb' => ?_) ?_
                      rotate_left
                      · (try go_simp); (try with_reducible rfl)
                      try simp only [Act.put, List.setIfInBounds_toArray, List.set_cons_zero, List.set_cons_succ]
                      refine g_take (i := 21) (d := (some 51)) (v := ?_) rfl rfl (by kernel_rfl) (fun _ _ _ h => h) (by rfl) (fun w' hb' => ?_) ?_
                      rotate_left
                      · (try go_simp); (try with_reducible rfl)
                      try simp only [Act.put, List.setIfInBounds_toArray, List.set_cons_zero, List.set_cons_succ]
                      refine g_take (i := 22) (d := (some 52)) (v := ?_) rfl rfl (by kernel_rfl) (fun _ _ _ h => h) (by rfl) (fun w' hb' => ?_) ?_
                      rotate_left
                      · have zz := (hb'.cell (p := ⟨b, off + j * 36 + 33, none⟩) hbs).trans vj; have zy := zz; rw [show off + j * 36 + 33 = off + j * 36 + 1 + 32 by omega] at zy; (try go_simp); (try with_reducible rfl)
                      try simp only [Act.put, List.setIfInBounds_toArray, List.set_cons_zero, List.set_cons_succ]
                      refine g_take (i := 23) (d := (some 53)) (v := ?_) rfl rfl (by kernel_rfl) (fun _ _ _ h => h) (by rfl) (fun w' hb' => ?_) ?_
                      rotate_left
                      · (try go_simp); (try with_reducible rfl)
                      try simp only [Act.put, List.setIfInBounds_toArray, List.set_cons_zero, List.set_cons_succ]
                      refine g_take (i := 24) (d := (some 54)) (v := ?_) rfl rfl (by kernel_rfl) (fun _ _ _ h => h) (by rfl) (fun w' hb' => ?_) ?_
                      rotate_left
                      · (try go_simp); (try with_reducible rfl)
                      try simp only [Act.put, List.setIfInBounds_toArray, List.set_cons_zero, List.set_cons_succ]
                      refine g_take (i := 25) (d := (some 55)) (v := ?_) rfl rfl (by kernel_rfl) (fun _ _ _ h => h) (by rfl) (fun w' hb' => ?_) ?_
                      rotate_left
                      · (try go_simp); (try with_reducible rfl)
                      try simp only [Act.put, List.setIfInBounds_toArray, List.set_cons_zero, List.set_cons_succ]
                      refine g_take (i := 26) (d := (some 56)) (v := ?_) rfl rfl (by kernel_rfl) (fun _ _ _ h => h) (by rfl) (fun w' hb' => ?_) ?_
                      rotate_left
                      · (try go_simp); (try with_reducible rfl)
                      try simp only [Act.put, List.setIfInBounds_toArray, List.set_cons_zero, List.set_cons_succ]
                      refine g_take (i := 27) (d := (some 57)) (v := ?_) rfl rfl (by kernel_rfl) (fun _ _ _ h => h) (by rfl) (fun w' hb' => ?_) ?_
                      rotate_left
                      · (try go_simp); (try with_reducible rfl)
                      try simp only [Act.put, List.setIfInBounds_toArray, List.set_cons_zero, List.set_cons_succ]
                      refine g_take (i := 28) (d := (some 58)) (v := ?_) rfl rfl (by kernel_rfl) (fun _ _ _ h => h) (by rfl) (fun w' hb' => ?_) ?_
                      rotate_left
                      · have zz := (hb'.cell (p := ⟨b, off + k * 36 + 33, none⟩) hbs).trans vk; have zy := zz; rw [show off + k * 36 + 33 = off + k * 36 + 1 + 32 by omega] at zy; (try go_simp); (try with_reducible rfl)
                      try simp only [Act.put, List.setIfInBounds_toArray, List.set_cons_zero, List.set_cons_succ]
                      refine g_take (i := 29) (d := (some 59)) (v := ?_) rfl rfl (by kernel_rfl) (fun _ _ _ h => h) (by rfl) (fun w' hb' => ?_) ?_
                      rotate_left
                      · (try go_simp); (try with_reducible rfl)
                      try simp only [Act.put, List.setIfInBounds_toArray, List.set_cons_zero, List.set_cons_succ]
                      refine g_take (i := 30) (d := (some 60)) (v := ?_) rfl rfl (by kernel_rfl) (fun _ _ _ h => h) (by rfl) (fun w' hb' => ?_) ?_
                      rotate_left
                      · (try go_simp); (try with_reducible rfl)
                      try simp only [Act.put, List.setIfInBounds_toArray, List.set_cons_zero, List.set_cons_succ]
                      refine g_take (i := 31) (d := (some 61)) (v := ?_) rfl rfl (by kernel_rfl) (fun _ _ _ h => h) (by rfl) (fun w' hb' => ?_) ?_
                      rotate_left
                      · (try go_simp); (try with_reducible rfl)
                      try simp only [Act.put, List.setIfInBounds_toArray, List.set_cons_zero, List.set_cons_succ]
                      refine g_take (i := 32) (d := (some 62)) (v := ?_) rfl rfl (by kernel_rfl) (fun _ _ _ h => h) (by rfl) (fun w' hb' => ?_) ?_
                      rotate_left
                      · (try go_simp); (try with_reducible rfl)
                      try simp only [Act.put, List.setIfInBounds_toArray, List.set_cons_zero, List.set_cons_succ]
                      refine g_take (i := 33) (d := (some 63)) (v := ?_) rfl rfl (by kernel_rfl) (fun _ _ _ h => h) (by rfl) (fun w' hb' => ?_) ?_
                      rotate_left
                      · (try go_simp); (try with_reducible rfl)
                      try simp only [Act.put, List.setIfInBounds_toArray, List.set_cons_zero, List.set_cons_succ]
                      refine g_take (i := 34) (d := (some 64)) (v := ?_) rfl rfl (by kernel_rfl) (fun _ _ _ h => h) (by rfl) (fun w' hb' => ?_) ?_
                      rotate_left
                      · (try go_simp); (try with_reducible rfl)
                      try simp only [Act.put, List.setIfInBounds_toArray, List.set_cons_zero, List.set_cons_succ]
                      refine g_take (i := 35) (d := (some 65)) (v := ?_) rfl rfl (by kernel_rfl) (fun _ _ _ h => h) (by rfl) (fun w' hb' => ?_) ?_
                      rotate_left
                      · (try go_simp); (try with_reducible rfl)
                      try simp only [Act.put, List.setIfInBounds_toArray, List.set_cons_zero, List.set_cons_succ]
                      refine g_take (i := 36) (d := (some 66)) (v := ?_) rfl rfl (by kernel_rfl) (fun _ _ _ h => h) (by rfl) (fun w' hb' => ?_) ?_
                      rotate_left
                      · (try go_simp); (try with_reducible rfl)
                      try simp only [Act.put, List.setIfInBounds_toArray, List.set_cons_zero, List.set_cons_succ]
                      refine g_take (i := 37) (d := (some 67)) (v := ?_) rfl rfl (by kernel_rfl) (fun _ _ _ h => h) (by rfl) (fun w' hb' => ?_) ?_
                      rotate_left
                      · (try go_simp); (try with_reducible rfl)
                      try simp only [Act.put, List.setIfInBounds_toArray, List.set_cons_zero, List.set_cons_succ]
                      refine g_take (i := 38) (d := (some 68)) (v := ?_) rfl rfl (by kernel_rfl) (fun _ _ _ h => h) (by rfl) (fun w' hb' => ?_) ?_
                      rotate_left
                      · have zz := (hb'.cell (p := ⟨b, off + j * 36 + 34, none⟩) hbs).trans bj; have zy := zz; rw [show off + j * 36 + 34 = off + j * 36 + 1 + 33 by omega] at zy; (try go_simp); (try with_reducible rfl)
                      try simp only [Act.put, List.setIfInBounds_toArray, List.set_cons_zero, List.set_cons_succ]
                      refine g_take (i := 39) (d := (some 69)) (v := ?_) rfl rfl (by kernel_rfl) (fun _ _ _ h => h) (by rfl) (fun w' hb' => ?_) ?_
                      rotate_left
                      · (try go_simp); (try with_reducible rfl)
                      try simp only [Act.put, List.setIfInBounds_toArray, List.set_cons_zero, List.set_cons_succ]
                      refine g_take (i := 40) (d := (some 70)) (v := ?_) rfl rfl (by kernel_rfl) (fun _ _ _ h => h) (by rfl) (fun w' hb' => ?_) ?_
                      rotate_left
                      · (try go_simp); (try with_reducible rfl)
                      try simp only [Act.put, List.setIfInBounds_toArray, List.set_cons_zero, List.set_cons_succ]
                      refine g_take (i := 41) (d := (some 71)) (v := ?_) rfl rfl (by kernel_rfl) (fun _ _ _ h => h) (by rfl) (fun w' hb' => ?_) ?_
                      rotate_left
                      · (try go_simp); (try with_reducible rfl)
                      try simp only [Act.put, List.setIfInBounds_toArray, List.set_cons_zero, List.set_cons_succ]
                      refine g_take (i := 42) (d := (some 72)) (v := ?_) rfl rfl (by kernel_rfl) (fun _ _ _ h => h) (by rfl) (fun w' hb' => ?_) ?_
                      rotate_left
                      · (try go_simp); (try with_reducible rfl)
                      try simp only [Act.put, List.setIfInBounds_toArray, List.set_cons_zero, List.set_cons_succ]
                      refine g_take (i := 43) (d := (some 73)) (v := ?_) rfl rfl (by kernel_rfl) (fun _ _ _ h => h) (by rfl) (fun w' hb' => ?_) ?_
                      rotate_left
                      · (try go_simp); (try with_reducible rfl)
                      try simp only [Act.put, List.setIfInBounds_toArray, List.set_cons_zero, List.set_cons_succ]
                      refine g_take (i := 44) (d := (some 74)) (v := ?_) rfl rfl (by kernel_rfl) (fun _ _ _ h => h) (by rfl) (fun w' hb' => ?_) ?_
                      rotate_left
                      · have zz := (hb'.cell (p := ⟨b, off + k * 36 + 34, none⟩) hbs).trans bk; have zy := zz; rw [show off + k * 36 + 34 = off + k * 36 + 1 + 33 by omega] at zy; (try go_simp); (try with_reducible rfl)
                      try simp only [Act.put, List.setIfInBounds_toArray, List.set_cons_zero, List.set_cons_succ]
                      refine g_take (i := 45) (d := (some 75)) (v := ?_) rfl rfl (by kernel_rfl) (fun _ _ _ h => h) (by rfl) (fun w' hb' => ?_) ?_
                      rotate_left
                      · (try go_simp); (try with_reducible rfl)
                      try simp only [Act.put, List.setIfInBounds_toArray, List.set_cons_zero, List.set_cons_succ]
                      refine g_take (i := 46) (d := (some 76)) (v := ?_) rfl rfl (by kernel_rfl) (fun _ _ _ h => h) (by rfl) (fun w' hb' => ?_) ?_
                      rotate_left
                      · (try go_simp); (try with_reducible rfl)
                      try simp only [Act.put, List.setIfInBounds_toArray, List.set_cons_zero, List.set_cons_succ]
                      refine g_take (i := 47) (d := (some 77)) (v := ?_) rfl rfl (by kernel_rfl) (fun _ _ _ h => h) (by rfl) (fun w' hb' => ?_) ?_
                      rotate_left
                      · (try go_simp); (try with_reducible rfl)
                      try simp only [Act.put, List.setIfInBounds_toArray, List.set_cons_zero, List.set_cons_succ]
                      refine g_take (i := 48) (d := (some 78)) (v := ?_) rfl rfl (by kernel_rfl) (fun _ _ _ h => h) (by rfl) (fun w' hb' => ?_) ?_
                      rotate_left
                      · (try go_simp); (try with_reducible rfl)
                      try simp only [Act.put, List.setIfInBounds_toArray, List.set_cons_zero, List.set_cons_succ]
                      refine g_take (i := 49) (d := (some 79)) (v := ?_) rfl rfl (by kernel_rfl) (fun _ _ _ h => h) (by rfl) (fun w' hb' => ?_) ?_
                      rotate_left
                      · (try go_simp); (try with_reducible rfl)
                      try simp only [Act.put, List.setIfInBounds_toArray, List.set_cons_zero, List.set_cons_succ]
                      refine g_take (i := 50) (d := (some 80)) (v := ?_) rfl rfl (by kernel_rfl) (fun _ _ _ h => h) (by rfl) (fun w' hb' => ?_) ?_
                      rotate_left
                      · (try go_simp); (try with_reducible rfl)
                      try simp only [Act.put, List.setIfInBounds_toArray, List.set_cons_zero, List.set_cons_succ]
                      refine g_take (i := 51) (d := (some 81)) (v := ?_) rfl rfl (by kernel_rfl) (fun _ _ _ h => h) (by rfl) (fun w' hb' => ?_) ?_
                      rotate_left
                      · (try go_simp); (try with_reducible rfl)
                      try simp only [Act.put, List.setIfInBounds_toArray, List.set_cons_zero, List.set_cons_succ]
                      refine g_take (i := 52) (d := (some 82)) (v := ?_) rfl rfl (by kernel_rfl) (fun _ _ _ h => h) (by rfl) (fun w' hb' => ?_) ?_
                      rotate_left
                      · (try go_simp); (try with_reducible rfl)
                      try simp only [Act.put, List.setIfInBounds_toArray, List.set_cons_zero, List.set_cons_succ]
                      refine g_take (i := 53) (d := (some 83)) (v := ?_) rfl rfl (by kernel_rfl) (fun _ _ _ h => h) (by rfl) (fun w' hb' => ?_) ?_
                      rotate_left
                      · (try go_simp); (try with_reducible rfl)
                      try simp only [Act.put, List.setIfInBounds_toArray, List.set_cons_zero, List.set_cons_succ]
                      refine g_take (i := 54) (d := (some 84)) (v := ?_) rfl rfl (by kernel_rfl) (fun _ _ _ h => h) (by rfl) (fun w' hb' => ?_) ?_
                      rotate_left
                      · have zz := (hb'.cell (p := ⟨b, off + j * 36 + 35, none⟩) hbs).trans ej; have zy := zz; rw [show off + j * 36 + 35 = off + j * 36 + 1 + 34 by omega] at zy; (try go_simp); (try with_reducible rfl)
                      try simp only [Act.put, List.setIfInBounds_toArray, List.set_cons_zero, List.set_cons_succ]
                      refine g_take (i := 55) (d := (some 85)) (v := ?_) rfl rfl (by kernel_rfl) (fun _ _ _ h => h) (by rfl) (fun w' hb' => ?_) ?_
                      rotate_left
                      · (try go_simp); (try with_reducible rfl)
                      try simp only [Act.put, List.setIfInBounds_toArray, List.set_cons_zero, List.set_cons_succ]
                      refine g_take (i := 56) (d := (some 86)) (v := ?_) rfl rfl (by kernel_rfl) (fun _ _ _ h => h) (by rfl) (fun w' hb' => ?_) ?_
                      rotate_left
                      · (try go_simp); (try with_reducible rfl)
                      try simp only [Act.put, List.setIfInBounds_toArray, List.set_cons_zero, List.set_cons_succ]
                      refine g_take (i := 57) (d := (some 87)) (v := ?_) rfl rfl (by kernel_rfl) (fun _ _ _ h => h) (by rfl) (fun w' hb' => ?_) ?_
                      rotate_left
                      · (try go_simp); (try with_reducible rfl)
                      try simp only [Act.put, List.setIfInBounds_toArray, List.set_cons_zero, List.set_cons_succ]
                      refine g_take (i := 58) (d := (some 88)) (v := ?_) rfl rfl (by kernel_rfl) (fun _ _ _ h => h) (by rfl) (fun w' hb' => ?_) ?_
                      rotate_left
                      · (try go_simp); (try with_reducible rfl)
                      try simp only [Act.put, List.setIfInBounds_toArray, List.set_cons_zero, List.set_cons_succ]
                      refine g_take (i := 59) (d := (some 89)) (v := ?_) rfl rfl (by kernel_rfl) (fun _ _ _ h => h) (by rfl) (fun w' hb' => ?_) ?_
                      rotate_left
                      · (try go_simp); (try with_reducible rfl)
                      try simp only [Act.put, List.setIfInBounds_toArray, List.set_cons_zero, List.set_cons_succ]
                      refine g_take (i := 60) (d := (some 90)) (v := ?_) rfl rfl (by kernel_rfl) (fun _ _ _ h => h) (by rfl) (fun w' hb' => ?_) ?_
                      rotate_left
                      · have zz := (hb'.cell (p := ⟨b, off + k * 36 + 35, none⟩) hbs).trans ek; have zy := zz; rw [show off + k * 36 + 35 = off + k * 36 + 1 + 34 by omega] at zy; (try go_simp); (try with_reducible rfl)
                      try simp only [Act.put, List.setIfInBounds_toArray, List.set_cons_zero, List.set_cons_succ]
                      refine g_take (i := 61) (d := (some 91)) (v := ?_) rfl rfl (by kernel_rfl) (fun _ _ _ h => h) (by rfl) (fun w' hb' => ?_) ?_
                      rotate_left
                      · (try go_simp); (try with_reducible rfl)
                      try simp only [Act.put, List.setIfInBounds_toArray, List.set_cons_zero, List.set_cons_succ]
                      refine g_take (i := 62) (d := (some 92)) (v := ?_) rfl rfl (by kernel_rfl) (fun _ _ _ h => h) (by rfl) (fun w' hb' => ?_) ?_
                      rotate_left
                      · (try go_simp); (try with_reducible rfl)
                      try simp only [Act.put, List.setIfInBounds_toArray, List.set_cons_zero, List.set_cons_succ]
                      refine g_take (i := 63) (d := (some 93)) (v := ?_) rfl rfl (by kernel_rfl) (fun _ _ _ h => h) (by rfl) (fun w' hb' => ?_) ?_
                      rotate_left
                      · (try go_simp); (try with_reducible rfl)
                      try simp only [Act.put, List.setIfInBounds_toArray, List.set_cons_zero, List.set_cons_succ]
                      refine g_take (i := 64) (d := (some 94)) (v := ?_) rfl rfl (by kernel_rfl) (fun _ _ _ h => h) (by rfl) (fun w' hb' => ?_) ?_
                      rotate_left
                      · (try go_simp); (try with_reducible rfl)
                      try simp only [Act.put, List.setIfInBounds_toArray, List.set_cons_zero, List.set_cons_succ]
                      refine g_done (by kernel_rfl) ?_
                      go_wp2_with fail
                      exact ⟨⟨k + 1, by omega, by push_cast; rfl, E, bel.drew⟩, by simp [intOf]; omega⟩
                    · have t3 : decide (KY = KX) = false := decide_eq_false k3
                      have s3 : (KY == KX) = false := by simp [k3]
                      have E := Lib.hid (show chk14 L = (3, k) by
                        have h := E0.out
                        have hj := HJ.out
                        subst hj
                        rw [h]; exact badGo_bad hlt (bad_fol hlt (by rw [← HX.out]; have h9 := HQ.out; omega) (by rw [← HX.out]; exact HMY.out) (by rw [← HX.out, ← HY.out, HFO.out]; simp [t3])) (by decide))
                      clear E0
                      go_wp2_with fail
                      refine g_start (by kernel_rfl) ?_
                      refine g_take (i := 0) (d := (some 30)) (v := ?_) rfl rfl (by kernel_rfl) (fun _ _ _ h => h) (by rfl) (fun w' hb' => ?_) ?_
                      rotate_left
                      · (try go_simp); (try with_reducible rfl)
                      try simp only [Act.put, List.setIfInBounds_toArray, List.set_cons_zero, List.set_cons_succ]
                      refine g_take (i := 1) (d := (some 31)) (v := ?_) rfl rfl (by kernel_rfl) (fun _ _ _ h => h) (by rfl) (fun w' hb' => ?_) ?_
                      rotate_left
                      · (try go_simp); (try with_reducible rfl)
                      try simp only [Act.put, List.setIfInBounds_toArray, List.set_cons_zero, List.set_cons_succ]
                      refine g_take (i := 2) (d := (some 32)) (v := ?_) rfl rfl (by kernel_rfl) (fun _ _ _ h => h) (by rfl) (fun w' hb' => ?_) ?_
                      rotate_left
                      · (try go_simp); (try with_reducible rfl)
                      try simp only [Act.put, List.setIfInBounds_toArray, List.set_cons_zero, List.set_cons_succ]
                      refine g_take (i := 3) (d := (some 33)) (v := ?_) rfl rfl (by kernel_rfl) (fun _ _ _ h => h) (by rfl) (fun w' hb' => ?_) ?_
                      rotate_left
                      · (try go_simp); (try with_reducible rfl)
                      try simp only [Act.put, List.setIfInBounds_toArray, List.set_cons_zero, List.set_cons_succ]
                      refine g_take (i := 4) (d := (some 34)) (v := ?_) rfl rfl (by kernel_rfl) (fun _ _ _ h => h) (by rfl) (fun w' hb' => ?_) ?_
                      rotate_left
                      · (try go_simp); (try with_reducible rfl)
                      try simp only [Act.put, List.setIfInBounds_toArray, List.set_cons_zero, List.set_cons_succ]
                      refine g_take (i := 5) (d := (some 35)) (v := ?_) rfl rfl (by kernel_rfl) (fun _ _ _ h => h) (by rfl) (fun w' hb' => ?_) ?_
                      rotate_left
                      · (try go_simp); (try with_reducible rfl)
                      try simp only [Act.put, List.setIfInBounds_toArray, List.set_cons_zero, List.set_cons_succ]
                      refine g_take (i := 6) (d := (some 36)) (v := ?_) rfl rfl (by kernel_rfl) (fun _ _ _ h => h) (by rfl) (fun w' hb' => ?_) ?_
                      rotate_left
                      · (try go_simp); (try with_reducible rfl)
                      try simp only [Act.put, List.setIfInBounds_toArray, List.set_cons_zero, List.set_cons_succ]
                      refine g_take (i := 7) (d := (some 37)) (v := ?_) rfl rfl (by kernel_rfl) (fun _ _ _ h => h) (by rfl) (fun w' hb' => ?_) ?_
                      rotate_left
                      · (try go_simp); (try with_reducible rfl)
                      try simp only [Act.put, List.setIfInBounds_toArray, List.set_cons_zero, List.set_cons_succ]
                      refine g_take (i := 8) (d := (some 38)) (v := ?_) rfl rfl (by kernel_rfl) (fun _ _ _ h => h) (by rfl) (fun w' hb' => ?_) ?_
                      rotate_left
                      · have zz := (hb'.cell (p := ⟨b, off + j * 36, none⟩) hbs).trans qj; (try go_simp); (try with_reducible rfl)
                      try simp only [Act.put, List.setIfInBounds_toArray, List.set_cons_zero, List.set_cons_succ]
                      refine g_take (i := 9) (d := (some 39)) (v := ?_) rfl rfl (by kernel_rfl) (fun _ _ _ h => h) (by rfl) (fun w' hb' => ?_) ?_
                      rotate_left
                      · (try go_simp); (try with_reducible rfl)
                      try simp only [Act.put, List.setIfInBounds_toArray, List.set_cons_zero, List.set_cons_succ]
                      refine g_take (i := 10) (d := (some 40)) (v := ?_) rfl rfl (by kernel_rfl) (fun _ _ _ h => h) (by rfl) (fun w' hb' => ?_) ?_
                      rotate_left
                      · (try go_simp); (try with_reducible rfl)
                      try simp only [Act.put, List.setIfInBounds_toArray, List.set_cons_zero, List.set_cons_succ]
                      refine g_take (i := 11) (d := (some 41)) (v := ?_) rfl rfl (by kernel_rfl) (fun _ _ _ h => h) (by rfl) (fun w' hb' => ?_) ?_
                      rotate_left
                      · (try go_simp); (try with_reducible rfl)
                      try simp only [Act.put, List.setIfInBounds_toArray, List.set_cons_zero, List.set_cons_succ]
                      refine g_take (i := 12) (d := (some 42)) (v := ?_) rfl rfl (by kernel_rfl) (fun _ _ _ h => h) (by rfl) (fun w' hb' => ?_) ?_
                      rotate_left
                      · (try go_simp); (try with_reducible rfl)
                      try simp only [Act.put, List.setIfInBounds_toArray, List.set_cons_zero, List.set_cons_succ]
                      refine g_take (i := 13) (d := (some 43)) (v := ?_) rfl rfl (by kernel_rfl) (fun _ _ _ h => h) (by rfl) (fun w' hb' => ?_) ?_
                      rotate_left
                      · have zz := (hb'.cell (p := ⟨b, off + k * 36, none⟩) hbs).trans qk; (try go_simp); (try with_reducible rfl)
                      try simp only [Act.put, List.setIfInBounds_toArray, List.set_cons_zero, List.set_cons_succ]
                      refine g_take (i := 14) (d := (some 44)) (v := ?_) rfl rfl (by kernel_rfl) (fun _ _ _ h => h) (by rfl) (fun w' hb' => ?_) ?_
                      rotate_left
                      · (try go_simp); (try with_reducible rfl)
                      try simp only [Act.put, List.setIfInBounds_toArray, List.set_cons_zero, List.set_cons_succ]
                      refine g_take (i := 15) (d := (some 45)) (v := ?_) rfl rfl (by kernel_rfl) (fun _ _ _ h => h) (by rfl) (fun w' hb' => ?_) ?_
                      rotate_left
                      · (try go_simp); (try with_reducible rfl)
                      try simp only [Act.put, List.setIfInBounds_toArray, List.set_cons_zero, List.set_cons_succ]
                      refine g_take (i := 16) (d := (some 46)) (v := ?_) rfl rfl (by kernel_rfl) (fun _ _ _ h => h) (by rfl) (fun w' hb' => ?_) ?_
                      rotate_left
                      · (try go_simp); (try with_reducible rfl)
                      try simp only [Act.put, List.setIfInBounds_toArray, List.set_cons_zero, List.set_cons_succ]
                      refine g_take (i := 17) (d := (some 47)) (v := ?_) rfl rfl (by kernel_rfl) (fun _ _ _ h => h) (by rfl) (fun w' hb' => ?_) ?_
                      rotate_left
                      · (try go_simp); (try with_reducible rfl)
                      try simp only [Act.put, List.setIfInBounds_toArray, List.set_cons_zero, List.set_cons_succ]
                      refine g_take (i := 18) (d := (some 48)) (v := ?_) rfl rfl (by kernel_rfl) (fun _ _ _ h => h) (by rfl) (fun w' hb' => ?_) ?_
                      rotate_left
                      · (try go_simp); (try with_reducible rfl)
                      try simp only [Act.put, List.setIfInBounds_toArray, List.set_cons_zero, List.set_cons_succ]
                      refine g_take (i := 19) (d := (some 49)) (v := ?_) rfl rfl (by kernel_rfl) (fun _ _ _ h => h) (by rfl) (fun w' hb' => ?_) ?_
                      rotate_left
                      · (try go_simp); (try with_reducible rfl)
                      try simp only [Act.put, List.setIfInBounds_toArray, List.set_cons_zero, List.set_cons_succ]
                      refine g_take (i := 20) (d := (some 50)) (v := ?_) rfl rfl (by kernel_rfl) (fun _ _ _ h => h) (by rfl) (fun w' hb' => ?_) ?_
                      rotate_left
                      · (try go_simp); (try with_reducible rfl)
                      try simp only [Act.put, List.setIfInBounds_toArray, List.set_cons_zero, List.set_cons_succ]
                      refine g_take (i := 21) (d := (some 51)) (v := ?_) rfl rfl (by kernel_rfl) (fun _ _ _ h => h) (by rfl) (fun w' hb' => ?_) ?_
                      rotate_left
                      · (try go_simp); (try with_reducible rfl)
                      try simp only [Act.put, List.setIfInBounds_toArray, List.set_cons_zero, List.set_cons_succ]
                      refine g_take (i := 22) (d := (some 52)) (v := ?_) rfl rfl (by kernel_rfl) (fun _ _ _ h => h) (by rfl) (fun w' hb' => ?_) ?_
                      rotate_left
                      · have zz := (hb'.cell (p := ⟨b, off + j * 36 + 33, none⟩) hbs).trans vj; have zy := zz; rw [show off + j * 36 + 33 = off + j * 36 + 1 + 32 by omega] at zy; (try go_simp); (try with_reducible rfl)
                      try simp only [Act.put, List.setIfInBounds_toArray, List.set_cons_zero, List.set_cons_succ]
                      refine g_take (i := 23) (d := (some 53)) (v := ?_) rfl rfl (by kernel_rfl) (fun _ _ _ h => h) (by rfl) (fun w' hb' => ?_) ?_
                      rotate_left
                      · (try go_simp); (try with_reducible rfl)
                      try simp only [Act.put, List.setIfInBounds_toArray, List.set_cons_zero, List.set_cons_succ]
                      refine g_take (i := 24) (d := (some 54)) (v := ?_) rfl rfl (by kernel_rfl) (fun _ _ _ h => h) (by rfl) (fun w' hb' => ?_) ?_
                      rotate_left
                      · (try go_simp); (try with_reducible rfl)
                      try simp only [Act.put, List.setIfInBounds_toArray, List.set_cons_zero, List.set_cons_succ]
                      refine g_take (i := 25) (d := (some 55)) (v := ?_) rfl rfl (by kernel_rfl) (fun _ _ _ h => h) (by rfl) (fun w' hb' => ?_) ?_
                      rotate_left
                      · (try go_simp); (try with_reducible rfl)
                      try simp only [Act.put, List.setIfInBounds_toArray, List.set_cons_zero, List.set_cons_succ]
                      refine g_take (i := 26) (d := (some 56)) (v := ?_) rfl rfl (by kernel_rfl) (fun _ _ _ h => h) (by rfl) (fun w' hb' => ?_) ?_
                      rotate_left
                      · (try go_simp); (try with_reducible rfl)
                      try simp only [Act.put, List.setIfInBounds_toArray, List.set_cons_zero, List.set_cons_succ]
                      refine g_take (i := 27) (d := (some 57)) (v := ?_) rfl rfl (by kernel_rfl) (fun _ _ _ h => h) (by rfl) (fun w' hb' => ?_) ?_
                      rotate_left
                      · (try go_simp); (try with_reducible rfl)
                      try simp only [Act.put, List.setIfInBounds_toArray, List.set_cons_zero, List.set_cons_succ]
                      refine g_take (i := 28) (d := (some 58)) (v := ?_) rfl rfl (by kernel_rfl) (fun _ _ _ h => h) (by rfl) (fun w' hb' => ?_) ?_
                      rotate_left
                      · have zz := (hb'.cell (p := ⟨b, off + k * 36 + 33, none⟩) hbs).trans vk; have zy := zz; rw [show off + k * 36 + 33 = off + k * 36 + 1 + 32 by omega] at zy; (try go_simp); (try with_reducible rfl)
                      try simp only [Act.put, List.setIfInBounds_toArray, List.set_cons_zero, List.set_cons_succ]
                      refine g_take (i := 29) (d := (some 59)) (v := ?_) rfl rfl (by kernel_rfl) (fun _ _ _ h => h) (by rfl) (fun w' hb' => ?_) ?_
                      rotate_left
                      · (try go_simp); (try with_reducible rfl)
                      try simp only [Act.put, List.setIfInBounds_toArray, List.set_cons_zero, List.set_cons_succ]
                      refine g_take (i := 30) (d := (some 60)) (v := ?_) rfl rfl (by kernel_rfl) (fun _ _ _ h => h) (by rfl) (fun w' hb' => ?_) ?_
                      rotate_left
                      · (try go_simp); (try with_reducible rfl)
                      try simp only [Act.put, List.setIfInBounds_toArray, List.set_cons_zero, List.set_cons_succ]
                      refine g_take (i := 31) (d := (some 61)) (v := ?_) rfl rfl (by kernel_rfl) (fun _ _ _ h => h) (by rfl) (fun w' hb' => ?_) ?_
                      rotate_left
                      · (try go_simp); (try with_reducible rfl)
                      try simp only [Act.put, List.setIfInBounds_toArray, List.set_cons_zero, List.set_cons_succ]
                      refine g_take (i := 32) (d := (some 62)) (v := ?_) rfl rfl (by kernel_rfl) (fun _ _ _ h => h) (by rfl) (fun w' hb' => ?_) ?_
                      rotate_left
                      · (try go_simp); (try with_reducible rfl)
                      try simp only [Act.put, List.setIfInBounds_toArray, List.set_cons_zero, List.set_cons_succ]
                      refine g_take (i := 33) (d := (some 63)) (v := ?_) rfl rfl (by kernel_rfl) (fun _ _ _ h => h) (by rfl) (fun w' hb' => ?_) ?_
                      rotate_left
                      · (try go_simp); (try with_reducible rfl)
                      try simp only [Act.put, List.setIfInBounds_toArray, List.set_cons_zero, List.set_cons_succ]
                      refine g_take (i := 34) (d := (some 64)) (v := ?_) rfl rfl (by kernel_rfl) (fun _ _ _ h => h) (by rfl) (fun w' hb' => ?_) ?_
                      rotate_left
                      · (try go_simp); (try with_reducible rfl)
                      try simp only [Act.put, List.setIfInBounds_toArray, List.set_cons_zero, List.set_cons_succ]
                      refine g_take (i := 35) (d := (some 65)) (v := ?_) rfl rfl (by kernel_rfl) (fun _ _ _ h => h) (by rfl) (fun w' hb' => ?_) ?_
                      rotate_left
                      · (try go_simp); (try with_reducible rfl)
                      try simp only [Act.put, List.setIfInBounds_toArray, List.set_cons_zero, List.set_cons_succ]
                      refine g_take (i := 36) (d := (some 66)) (v := ?_) rfl rfl (by kernel_rfl) (fun _ _ _ h => h) (by rfl) (fun w' hb' => ?_) ?_
                      rotate_left
                      · (try go_simp); (try with_reducible rfl)
                      try simp only [Act.put, List.setIfInBounds_toArray, List.set_cons_zero, List.set_cons_succ]
                      refine g_take (i := 37) (d := (some 67)) (v := ?_) rfl rfl (by kernel_rfl) (fun _ _ _ h => h) (by rfl) (fun w' hb' => ?_) ?_
                      rotate_left
                      · (try go_simp); (try with_reducible rfl)
                      try simp only [Act.put, List.setIfInBounds_toArray, List.set_cons_zero, List.set_cons_succ]
                      refine g_take (i := 38) (d := (some 68)) (v := ?_) rfl rfl (by kernel_rfl) (fun _ _ _ h => h) (by rfl) (fun w' hb' => ?_) ?_
                      rotate_left
                      · have zz := (hb'.cell (p := ⟨b, off + j * 36 + 34, none⟩) hbs).trans bj; have zy := zz; rw [show off + j * 36 + 34 = off + j * 36 + 1 + 33 by omega] at zy; (try go_simp); (try with_reducible rfl)
                      try simp only [Act.put, List.setIfInBounds_toArray, List.set_cons_zero, List.set_cons_succ]
                      refine g_take (i := 39) (d := (some 69)) (v := ?_) rfl rfl (by kernel_rfl) (fun _ _ _ h => h) (by rfl) (fun w' hb' => ?_) ?_
                      rotate_left
                      · (try go_simp); (try with_reducible rfl)
                      try simp only [Act.put, List.setIfInBounds_toArray, List.set_cons_zero, List.set_cons_succ]
                      refine g_take (i := 40) (d := (some 70)) (v := ?_) rfl rfl (by kernel_rfl) (fun _ _ _ h => h) (by rfl) (fun w' hb' => ?_) ?_
                      rotate_left
                      · (try go_simp); (try with_reducible rfl)
                      try simp only [Act.put, List.setIfInBounds_toArray, List.set_cons_zero, List.set_cons_succ]
                      refine g_take (i := 41) (d := (some 71)) (v := ?_) rfl rfl (by kernel_rfl) (fun _ _ _ h => h) (by rfl) (fun w' hb' => ?_) ?_
                      rotate_left
                      · (try go_simp); (try with_reducible rfl)
                      try simp only [Act.put, List.setIfInBounds_toArray, List.set_cons_zero, List.set_cons_succ]
                      refine g_take (i := 42) (d := (some 72)) (v := ?_) rfl rfl (by kernel_rfl) (fun _ _ _ h => h) (by rfl) (fun w' hb' => ?_) ?_
                      rotate_left
                      · (try go_simp); (try with_reducible rfl)
                      try simp only [Act.put, List.setIfInBounds_toArray, List.set_cons_zero, List.set_cons_succ]
                      refine g_take (i := 43) (d := (some 73)) (v := ?_) rfl rfl (by kernel_rfl) (fun _ _ _ h => h) (by rfl) (fun w' hb' => ?_) ?_
                      rotate_left
                      · (try go_simp); (try with_reducible rfl)
                      try simp only [Act.put, List.setIfInBounds_toArray, List.set_cons_zero, List.set_cons_succ]
                      refine g_take (i := 44) (d := (some 74)) (v := ?_) rfl rfl (by kernel_rfl) (fun _ _ _ h => h) (by rfl) (fun w' hb' => ?_) ?_
                      rotate_left
                      · have zz := (hb'.cell (p := ⟨b, off + k * 36 + 34, none⟩) hbs).trans bk; have zy := zz; rw [show off + k * 36 + 34 = off + k * 36 + 1 + 33 by omega] at zy; (try go_simp); (try with_reducible rfl)
                      try simp only [Act.put, List.setIfInBounds_toArray, List.set_cons_zero, List.set_cons_succ]
                      refine g_take (i := 45) (d := (some 75)) (v := ?_) rfl rfl (by kernel_rfl) (fun _ _ _ h => h) (by rfl) (fun w' hb' => ?_) ?_
                      rotate_left
                      · (try go_simp); (try with_reducible rfl)
                      try simp only [Act.put, List.setIfInBounds_toArray, List.set_cons_zero, List.set_cons_succ]
                      refine g_take (i := 46) (d := (some 76)) (v := ?_) rfl rfl (by kernel_rfl) (fun _ _ _ h => h) (by rfl) (fun w' hb' => ?_) ?_
                      rotate_left
                      · (try go_simp); (try with_reducible rfl)
                      try simp only [Act.put, List.setIfInBounds_toArray, List.set_cons_zero, List.set_cons_succ]
                      refine g_take (i := 47) (d := (some 77)) (v := ?_) rfl rfl (by kernel_rfl) (fun _ _ _ h => h) (by rfl) (fun w' hb' => ?_) ?_
                      rotate_left
                      · (try go_simp); (try with_reducible rfl)
                      try simp only [Act.put, List.setIfInBounds_toArray, List.set_cons_zero, List.set_cons_succ]
                      refine g_take (i := 48) (d := (some 78)) (v := ?_) rfl rfl (by kernel_rfl) (fun _ _ _ h => h) (by rfl) (fun w' hb' => ?_) ?_
                      rotate_left
                      · (try go_simp); (try with_reducible rfl)
                      try simp only [Act.put, List.setIfInBounds_toArray, List.set_cons_zero, List.set_cons_succ]
                      refine g_take (i := 49) (d := (some 79)) (v := ?_) rfl rfl (by kernel_rfl) (fun _ _ _ h => h) (by rfl) (fun w' hb' => ?_) ?_
                      rotate_left
                      · (try go_simp); (try with_reducible rfl)
                      try simp only [Act.put, List.setIfInBounds_toArray, List.set_cons_zero, List.set_cons_succ]
                      refine g_take (i := 50) (d := (some 80)) (v := ?_) rfl rfl (by kernel_rfl) (fun _ _ _ h => h) (by rfl) (fun w' hb' => ?_) ?_
                      rotate_left
                      · (try go_simp); (try with_reducible rfl)
                      try simp only [Act.put, List.setIfInBounds_toArray, List.set_cons_zero, List.set_cons_succ]
                      refine g_take (i := 51) (d := (some 81)) (v := ?_) rfl rfl (by kernel_rfl) (fun _ _ _ h => h) (by rfl) (fun w' hb' => ?_) ?_
                      rotate_left
                      · (try go_simp); (try with_reducible rfl)
                      try simp only [Act.put, List.setIfInBounds_toArray, List.set_cons_zero, List.set_cons_succ]
                      refine g_take (i := 52) (d := (some 82)) (v := ?_) rfl rfl (by kernel_rfl) (fun _ _ _ h => h) (by rfl) (fun w' hb' => ?_) ?_
                      rotate_left
                      · (try go_simp); (try with_reducible rfl)
                      try simp only [Act.put, List.setIfInBounds_toArray, List.set_cons_zero, List.set_cons_succ]
                      refine g_take (i := 53) (d := (some 83)) (v := ?_) rfl rfl (by kernel_rfl) (fun _ _ _ h => h) (by rfl) (fun w' hb' => ?_) ?_
                      rotate_left
                      · (try go_simp); (try with_reducible rfl)
                      try simp only [Act.put, List.setIfInBounds_toArray, List.set_cons_zero, List.set_cons_succ]
                      refine g_take (i := 54) (d := (some 84)) (v := ?_) rfl rfl (by kernel_rfl) (fun _ _ _ h => h) (by rfl) (fun w' hb' => ?_) ?_
                      rotate_left
                      · have zz := (hb'.cell (p := ⟨b, off + j * 36 + 35, none⟩) hbs).trans ej; have zy := zz; rw [show off + j * 36 + 35 = off + j * 36 + 1 + 34 by omega] at zy; (try go_simp); (try with_reducible rfl)
                      try simp only [Act.put, List.setIfInBounds_toArray, List.set_cons_zero, List.set_cons_succ]
                      refine g_take (i := 55) (d := (some 85)) (v := ?_) rfl rfl (by kernel_rfl) (fun _ _ _ h => h) (by rfl) (fun w' hb' => ?_) ?_
                      rotate_left
                      · (try go_simp); (try with_reducible rfl)
                      try simp only [Act.put, List.setIfInBounds_toArray, List.set_cons_zero, List.set_cons_succ]
                      refine g_take (i := 56) (d := (some 86)) (v := ?_) rfl rfl (by kernel_rfl) (fun _ _ _ h => h) (by rfl) (fun w' hb' => ?_) ?_
                      rotate_left
                      · (try go_simp); (try with_reducible rfl)
                      try simp only [Act.put, List.setIfInBounds_toArray, List.set_cons_zero, List.set_cons_succ]
                      refine g_take (i := 57) (d := (some 87)) (v := ?_) rfl rfl (by kernel_rfl) (fun _ _ _ h => h) (by rfl) (fun w' hb' => ?_) ?_
                      rotate_left
                      · (try go_simp); (try with_reducible rfl)
                      try simp only [Act.put, List.setIfInBounds_toArray, List.set_cons_zero, List.set_cons_succ]
                      refine g_take (i := 58) (d := (some 88)) (v := ?_) rfl rfl (by kernel_rfl) (fun _ _ _ h => h) (by rfl) (fun w' hb' => ?_) ?_
                      rotate_left
                      · (try go_simp); (try with_reducible rfl)
                      try simp only [Act.put, List.setIfInBounds_toArray, List.set_cons_zero, List.set_cons_succ]
                      refine g_take (i := 59) (d := (some 89)) (v := ?_) rfl rfl (by kernel_rfl) (fun _ _ _ h => h) (by rfl) (fun w' hb' => ?_) ?_
                      rotate_left
                      · (try go_simp); (try with_reducible rfl)
                      try simp only [Act.put, List.setIfInBounds_toArray, List.set_cons_zero, List.set_cons_succ]
                      refine g_take (i := 60) (d := (some 90)) (v := ?_) rfl rfl (by kernel_rfl) (fun _ _ _ h => h) (by rfl) (fun w' hb' => ?_) ?_
                      rotate_left
                      · have zz := (hb'.cell (p := ⟨b, off + k * 36 + 35, none⟩) hbs).trans ek; have zy := zz; rw [show off + k * 36 + 35 = off + k * 36 + 1 + 34 by omega] at zy; (try go_simp); (try with_reducible rfl)
                      try simp only [Act.put, List.setIfInBounds_toArray, List.set_cons_zero, List.set_cons_succ]
                      refine g_take (i := 61) (d := (some 91)) (v := ?_) rfl rfl (by kernel_rfl) (fun _ _ _ h => h) (by rfl) (fun w' hb' => ?_) ?_
                      rotate_left
                      · (try go_simp); (try with_reducible rfl)
                      try simp only [Act.put, List.setIfInBounds_toArray, List.set_cons_zero, List.set_cons_succ]
                      refine g_take (i := 62) (d := (some 92)) (v := ?_) rfl rfl (by kernel_rfl) (fun _ _ _ h => h) (by rfl) (fun w' hb' => ?_) ?_
                      rotate_left
                      · (try go_simp); (try with_reducible rfl)
                      try simp only [Act.put, List.setIfInBounds_toArray, List.set_cons_zero, List.set_cons_succ]
                      refine g_take (i := 63) (d := (some 93)) (v := ?_) rfl rfl (by kernel_rfl) (fun _ _ _ h => h) (by rfl) (fun w' hb' => ?_) ?_
                      rotate_left
                      · (try go_simp); (try with_reducible rfl)
                      try simp only [Act.put, List.setIfInBounds_toArray, List.set_cons_zero, List.set_cons_succ]
                      refine g_take (i := 64) (d := (some 94)) (v := ?_) rfl rfl (by kernel_rfl) (fun _ _ _ h => h) (by rfl) (fun w' hb' => ?_) ?_
                      rotate_left
                      · (try go_simp); (try with_reducible rfl)
                      try simp only [Act.put, List.setIfInBounds_toArray, List.set_cons_zero, List.set_cons_succ]
                      refine g_done (by kernel_rfl) ?_
                      go_wp2_with fail
                      go_ret2
                      exact ⟨by rw [HR.out, E.out]; rfl, bel.drew⟩
                  · have t2 : decide (BY = BX) = false := decide_eq_false k2
                    have s2 : (BY == BX) = false := by simp [k2]
                    have E := Lib.hid (show chk14 L = (3, k) by
                      have h := E0.out
                      have hj := HJ.out
                      subst hj
                      rw [h]; exact badGo_bad hlt (bad_fol hlt (by rw [← HX.out]; have h9 := HQ.out; omega) (by rw [← HX.out]; exact HMY.out) (by rw [← HX.out, ← HY.out, HFO.out]; simp [t2])) (by decide))
                    clear E0
                    go_wp2_with fail
                    refine g_start (by kernel_rfl) ?_
                    refine g_take (i := 0) (d := (some 30)) (v := ?_) rfl rfl (by kernel_rfl) (fun _ _ _ h => h) (by rfl) (fun w' hb' => ?_) ?_
                    rotate_left
                    · (try go_simp); (try with_reducible rfl)
                    try simp only [Act.put, List.setIfInBounds_toArray, List.set_cons_zero, List.set_cons_succ]
                    refine g_take (i := 1) (d := (some 31)) (v := ?_) rfl rfl (by kernel_rfl) (fun _ _ _ h => h) (by rfl) (fun w' hb' => ?_) ?_
                    rotate_left
                    · (try go_simp); (try with_reducible rfl)
                    try simp only [Act.put, List.setIfInBounds_toArray, List.set_cons_zero, List.set_cons_succ]
                    refine g_take (i := 2) (d := (some 32)) (v := ?_) rfl rfl (by kernel_rfl) (fun _ _ _ h => h) (by rfl) (fun w' hb' => ?_) ?_
                    rotate_left
                    · (try go_simp); (try with_reducible rfl)
                    try simp only [Act.put, List.setIfInBounds_toArray, List.set_cons_zero, List.set_cons_succ]
                    refine g_take (i := 3) (d := (some 33)) (v := ?_) rfl rfl (by kernel_rfl) (fun _ _ _ h => h) (by rfl) (fun w' hb' => ?_) ?_
                    rotate_left
                    · (try go_simp); (try with_reducible rfl)
                    try simp only [Act.put, List.setIfInBounds_toArray, List.set_cons_zero, List.set_cons_succ]
                    refine g_take (i := 4) (d := (some 34)) (v := ?_) rfl rfl (by kernel_rfl) (fun _ _ _ h => h) (by rfl) (fun w' hb' => ?_) ?_
                    rotate_left
                    · (try go_simp); (try with_reducible rfl)
                    try simp only [Act.put, List.setIfInBounds_toArray, List.set_cons_zero, List.set_cons_succ]
                    refine g_take (i := 5) (d := (some 35)) (v := ?_) rfl rfl (by kernel_rfl) (fun _ _ _ h => h) (by rfl) (fun w' hb' => ?_) ?_
                    rotate_left
                    · (try go_simp); (try with_reducible rfl)
                    try simp only [Act.put, List.setIfInBounds_toArray, List.set_cons_zero, List.set_cons_succ]
                    refine g_take (i := 6) (d := (some 36)) (v := ?_) rfl rfl (by kernel_rfl) (fun _ _ _ h => h) (by rfl) (fun w' hb' => ?_) ?_
                    rotate_left
                    · (try go_simp); (try with_reducible rfl)
                    try simp only [Act.put, List.setIfInBounds_toArray, List.set_cons_zero, List.set_cons_succ]
                    refine g_take (i := 7) (d := (some 37)) (v := ?_) rfl rfl (by kernel_rfl) (fun _ _ _ h => h) (by rfl) (fun w' hb' => ?_) ?_
                    rotate_left
                    · (try go_simp); (try with_reducible rfl)
                    try simp only [Act.put, List.setIfInBounds_toArray, List.set_cons_zero, List.set_cons_succ]
                    refine g_take (i := 8) (d := (some 38)) (v := ?_) rfl rfl (by kernel_rfl) (fun _ _ _ h => h) (by rfl) (fun w' hb' => ?_) ?_
                    rotate_left
                    · have zz := (hb'.cell (p := ⟨b, off + j * 36, none⟩) hbs).trans qj; (try go_simp); (try with_reducible rfl)
                    try simp only [Act.put, List.setIfInBounds_toArray, List.set_cons_zero, List.set_cons_succ]
                    refine g_take (i := 9) (d := (some 39)) (v := ?_) rfl rfl (by kernel_rfl) (fun _ _ _ h => h) (by rfl) (fun w' hb' => ?_) ?_
                    rotate_left
                    · (try go_simp); (try with_reducible rfl)
                    try simp only [Act.put, List.setIfInBounds_toArray, List.set_cons_zero, List.set_cons_succ]
                    refine g_take (i := 10) (d := (some 40)) (v := ?_) rfl rfl (by kernel_rfl) (fun _ _ _ h => h) (by rfl) (fun w' hb' => ?_) ?_
                    rotate_left
                    · (try go_simp); (try with_reducible rfl)
                    try simp only [Act.put, List.setIfInBounds_toArray, List.set_cons_zero, List.set_cons_succ]
                    refine g_take (i := 11) (d := (some 41)) (v := ?_) rfl rfl (by kernel_rfl) (fun _ _ _ h => h) (by rfl) (fun w' hb' => ?_) ?_
                    rotate_left
                    · (try go_simp); (try with_reducible rfl)
                    try simp only [Act.put, List.setIfInBounds_toArray, List.set_cons_zero, List.set_cons_succ]
                    refine g_take (i := 12) (d := (some 42)) (v := ?_) rfl rfl (by kernel_rfl) (fun _ _ _ h => h) (by rfl) (fun w' hb' => ?_) ?_
                    rotate_left
                    · (try go_simp); (try with_reducible rfl)
                    try simp only [Act.put, List.setIfInBounds_toArray, List.set_cons_zero, List.set_cons_succ]
                    refine g_take (i := 13) (d := (some 43)) (v := ?_) rfl rfl (by kernel_rfl) (fun _ _ _ h => h) (by rfl) (fun w' hb' => ?_) ?_
                    rotate_left
                    · have zz := (hb'.cell (p := ⟨b, off + k * 36, none⟩) hbs).trans qk; (try go_simp); (try with_reducible rfl)
                    try simp only [Act.put, List.setIfInBounds_toArray, List.set_cons_zero, List.set_cons_succ]
                    refine g_take (i := 14) (d := (some 44)) (v := ?_) rfl rfl (by kernel_rfl) (fun _ _ _ h => h) (by rfl) (fun w' hb' => ?_) ?_
                    rotate_left
                    · (try go_simp); (try with_reducible rfl)
                    try simp only [Act.put, List.setIfInBounds_toArray, List.set_cons_zero, List.set_cons_succ]
                    refine g_take (i := 15) (d := (some 45)) (v := ?_) rfl rfl (by kernel_rfl) (fun _ _ _ h => h) (by rfl) (fun w' hb' => ?_) ?_
                    rotate_left
                    · (try go_simp); (try with_reducible rfl)
                    try simp only [Act.put, List.setIfInBounds_toArray, List.set_cons_zero, List.set_cons_succ]
                    refine g_take (i := 16) (d := (some 46)) (v := ?_) rfl rfl (by kernel_rfl) (fun _ _ _ h => h) (by rfl) (fun w' hb' => ?_) ?_
                    rotate_left
                    · (try go_simp); (try with_reducible rfl)
                    try simp only [Act.put, List.setIfInBounds_toArray, List.set_cons_zero, List.set_cons_succ]
                    refine g_take (i := 17) (d := (some 47)) (v := ?_) rfl rfl (by kernel_rfl) (fun _ _ _ h => h) (by rfl) (fun w' hb' => ?_) ?_
                    rotate_left
                    · (try go_simp); (try with_reducible rfl)
                    try simp only [Act.put, List.setIfInBounds_toArray, List.set_cons_zero, List.set_cons_succ]
                    refine g_take (i := 18) (d := (some 48)) (v := ?_) rfl rfl (by kernel_rfl) (fun _ _ _ h => h) (by rfl) (fun w' hb' => ?_) ?_
                    rotate_left
                    · (try go_simp); (try with_reducible rfl)
                    try simp only [Act.put, List.setIfInBounds_toArray, List.set_cons_zero, List.set_cons_succ]
                    refine g_take (i := 19) (d := (some 49)) (v := ?_) rfl rfl (by kernel_rfl) (fun _ _ _ h => h) (by rfl) (fun w' hb' => ?_) ?_
                    rotate_left
                    · (try go_simp); (try with_reducible rfl)
                    try simp only [Act.put, List.setIfInBounds_toArray, List.set_cons_zero, List.set_cons_succ]
                    refine g_take (i := 20) (d := (some 50)) (v := ?_) rfl rfl (by kernel_rfl) (fun _ _ _ h => h) (by rfl) (fun w' hb' => ?_) ?_
                    rotate_left
                    · (try go_simp); (try with_reducible rfl)
                    try simp only [Act.put, List.setIfInBounds_toArray, List.set_cons_zero, List.set_cons_succ]
                    refine g_take (i := 21) (d := (some 51)) (v := ?_) rfl rfl (by kernel_rfl) (fun _ _ _ h => h) (by rfl) (fun w' hb' => ?_) ?_
                    rotate_left
                    · (try go_simp); (try with_reducible rfl)
                    try simp only [Act.put, List.setIfInBounds_toArray, List.set_cons_zero, List.set_cons_succ]
                    refine g_take (i := 22) (d := (some 52)) (v := ?_) rfl rfl (by kernel_rfl) (fun _ _ _ h => h) (by rfl) (fun w' hb' => ?_) ?_
                    rotate_left
                    · have zz := (hb'.cell (p := ⟨b, off + j * 36 + 33, none⟩) hbs).trans vj; have zy := zz; rw [show off + j * 36 + 33 = off + j * 36 + 1 + 32 by omega] at zy; (try go_simp); (try with_reducible rfl)
                    try simp only [Act.put, List.setIfInBounds_toArray, List.set_cons_zero, List.set_cons_succ]
                    refine g_take (i := 23) (d := (some 53)) (v := ?_) rfl rfl (by kernel_rfl) (fun _ _ _ h => h) (by rfl) (fun w' hb' => ?_) ?_
                    rotate_left
                    · (try go_simp); (try with_reducible rfl)
                    try simp only [Act.put, List.setIfInBounds_toArray, List.set_cons_zero, List.set_cons_succ]
                    refine g_take (i := 24) (d := (some 54)) (v := ?_) rfl rfl (by kernel_rfl) (fun _ _ _ h => h) (by rfl) (fun w' hb' => ?_) ?_
                    rotate_left
                    · (try go_simp); (try with_reducible rfl)
                    try simp only [Act.put, List.setIfInBounds_toArray, List.set_cons_zero, List.set_cons_succ]
                    refine g_take (i := 25) (d := (some 55)) (v := ?_) rfl rfl (by kernel_rfl) (fun _ _ _ h => h) (by rfl) (fun w' hb' => ?_) ?_
                    rotate_left
                    · (try go_simp); (try with_reducible rfl)
                    try simp only [Act.put, List.setIfInBounds_toArray, List.set_cons_zero, List.set_cons_succ]
                    refine g_take (i := 26) (d := (some 56)) (v := ?_) rfl rfl (by kernel_rfl) (fun _ _ _ h => h) (by rfl) (fun w' hb' => ?_) ?_
                    rotate_left
                    · (try go_simp); (try with_reducible rfl)
                    try simp only [Act.put, List.setIfInBounds_toArray, List.set_cons_zero, List.set_cons_succ]
                    refine g_take (i := 27) (d := (some 57)) (v := ?_) rfl rfl (by kernel_rfl) (fun _ _ _ h => h) (by rfl) (fun w' hb' => ?_) ?_
                    rotate_left
                    · (try go_simp); (try with_reducible rfl)
                    try simp only [Act.put, List.setIfInBounds_toArray, List.set_cons_zero, List.set_cons_succ]
                    refine g_take (i := 28) (d := (some 58)) (v := ?_) rfl rfl (by kernel_rfl) (fun _ _ _ h => h) (by rfl) (fun w' hb' => ?_) ?_
                    rotate_left
                    · have zz := (hb'.cell (p := ⟨b, off + k * 36 + 33, none⟩) hbs).trans vk; have zy := zz; rw [show off + k * 36 + 33 = off + k * 36 + 1 + 32 by omega] at zy; (try go_simp); (try with_reducible rfl)
                    try simp only [Act.put, List.setIfInBounds_toArray, List.set_cons_zero, List.set_cons_succ]
                    refine g_take (i := 29) (d := (some 59)) (v := ?_) rfl rfl (by kernel_rfl) (fun _ _ _ h => h) (by rfl) (fun w' hb' => ?_) ?_
                    rotate_left
                    · (try go_simp); (try with_reducible rfl)
                    try simp only [Act.put, List.setIfInBounds_toArray, List.set_cons_zero, List.set_cons_succ]
                    refine g_take (i := 30) (d := (some 60)) (v := ?_) rfl rfl (by kernel_rfl) (fun _ _ _ h => h) (by rfl) (fun w' hb' => ?_) ?_
                    rotate_left
                    · (try go_simp); (try with_reducible rfl)
                    try simp only [Act.put, List.setIfInBounds_toArray, List.set_cons_zero, List.set_cons_succ]
                    refine g_take (i := 31) (d := (some 61)) (v := ?_) rfl rfl (by kernel_rfl) (fun _ _ _ h => h) (by rfl) (fun w' hb' => ?_) ?_
                    rotate_left
                    · (try go_simp); (try with_reducible rfl)
                    try simp only [Act.put, List.setIfInBounds_toArray, List.set_cons_zero, List.set_cons_succ]
                    refine g_take (i := 32) (d := (some 62)) (v := ?_) rfl rfl (by kernel_rfl) (fun _ _ _ h => h) (by rfl) (fun w' hb' => ?_) ?_
                    rotate_left
                    · (try go_simp); (try with_reducible rfl)
                    try simp only [Act.put, List.setIfInBounds_toArray, List.set_cons_zero, List.set_cons_succ]
                    refine g_take (i := 33) (d := (some 63)) (v := ?_) rfl rfl (by kernel_rfl) (fun _ _ _ h => h) (by rfl) (fun w' hb' => ?_) ?_
                    rotate_left
                    · (try go_simp); (try with_reducible rfl)
                    try simp only [Act.put, List.setIfInBounds_toArray, List.set_cons_zero, List.set_cons_succ]
                    refine g_take (i := 34) (d := (some 64)) (v := ?_) rfl rfl (by kernel_rfl) (fun _ _ _ h => h) (by rfl) (fun w' hb' => ?_) ?_
                    rotate_left
                    · (try go_simp); (try with_reducible rfl)
                    try simp only [Act.put, List.setIfInBounds_toArray, List.set_cons_zero, List.set_cons_succ]
                    refine g_take (i := 35) (d := (some 65)) (v := ?_) rfl rfl (by kernel_rfl) (fun _ _ _ h => h) (by rfl) (fun w' hb' => ?_) ?_
                    rotate_left
                    · (try go_simp); (try with_reducible rfl)
                    try simp only [Act.put, List.setIfInBounds_toArray, List.set_cons_zero, List.set_cons_succ]
                    refine g_take (i := 36) (d := (some 66)) (v := ?_) rfl rfl (by kernel_rfl) (fun _ _ _ h => h) (by rfl) (fun w' hb' => ?_) ?_
                    rotate_left
                    · (try go_simp); (try with_reducible rfl)
                    try simp only [Act.put, List.setIfInBounds_toArray, List.set_cons_zero, List.set_cons_succ]
                    refine g_take (i := 37) (d := (some 67)) (v := ?_) rfl rfl (by kernel_rfl) (fun _ _ _ h => h) (by rfl) (fun w' hb' => ?_) ?_
                    rotate_left
                    · (try go_simp); (try with_reducible rfl)
                    try simp only [Act.put, List.setIfInBounds_toArray, List.set_cons_zero, List.set_cons_succ]
                    refine g_take (i := 38) (d := (some 68)) (v := ?_) rfl rfl (by kernel_rfl) (fun _ _ _ h => h) (by rfl) (fun w' hb' => ?_) ?_
                    rotate_left
                    · have zz := (hb'.cell (p := ⟨b, off + j * 36 + 34, none⟩) hbs).trans bj; have zy := zz; rw [show off + j * 36 + 34 = off + j * 36 + 1 + 33 by omega] at zy; (try go_simp); (try with_reducible rfl)
                    try simp only [Act.put, List.setIfInBounds_toArray, List.set_cons_zero, List.set_cons_succ]
                    refine g_take (i := 39) (d := (some 69)) (v := ?_) rfl rfl (by kernel_rfl) (fun _ _ _ h => h) (by rfl) (fun w' hb' => ?_) ?_
                    rotate_left
                    · (try go_simp); (try with_reducible rfl)
                    try simp only [Act.put, List.setIfInBounds_toArray, List.set_cons_zero, List.set_cons_succ]
                    refine g_take (i := 40) (d := (some 70)) (v := ?_) rfl rfl (by kernel_rfl) (fun _ _ _ h => h) (by rfl) (fun w' hb' => ?_) ?_
                    rotate_left
                    · (try go_simp); (try with_reducible rfl)
                    try simp only [Act.put, List.setIfInBounds_toArray, List.set_cons_zero, List.set_cons_succ]
                    refine g_take (i := 41) (d := (some 71)) (v := ?_) rfl rfl (by kernel_rfl) (fun _ _ _ h => h) (by rfl) (fun w' hb' => ?_) ?_
                    rotate_left
                    · (try go_simp); (try with_reducible rfl)
                    try simp only [Act.put, List.setIfInBounds_toArray, List.set_cons_zero, List.set_cons_succ]
                    refine g_take (i := 42) (d := (some 72)) (v := ?_) rfl rfl (by kernel_rfl) (fun _ _ _ h => h) (by rfl) (fun w' hb' => ?_) ?_
                    rotate_left
                    · (try go_simp); (try with_reducible rfl)
                    try simp only [Act.put, List.setIfInBounds_toArray, List.set_cons_zero, List.set_cons_succ]
                    refine g_take (i := 43) (d := (some 73)) (v := ?_) rfl rfl (by kernel_rfl) (fun _ _ _ h => h) (by rfl) (fun w' hb' => ?_) ?_
                    rotate_left
                    · (try go_simp); (try with_reducible rfl)
                    try simp only [Act.put, List.setIfInBounds_toArray, List.set_cons_zero, List.set_cons_succ]
                    refine g_take (i := 44) (d := (some 74)) (v := ?_) rfl rfl (by kernel_rfl) (fun _ _ _ h => h) (by rfl) (fun w' hb' => ?_) ?_
                    rotate_left
                    · have zz := (hb'.cell (p := ⟨b, off + k * 36 + 34, none⟩) hbs).trans bk; have zy := zz; rw [show off + k * 36 + 34 = off + k * 36 + 1 + 33 by omega] at zy; (try go_simp); (try with_reducible rfl)
                    try simp only [Act.put, List.setIfInBounds_toArray, List.set_cons_zero, List.set_cons_succ]
                    refine g_take (i := 45) (d := (some 75)) (v := ?_) rfl rfl (by kernel_rfl) (fun _ _ _ h => h) (by rfl) (fun w' hb' => ?_) ?_
                    rotate_left
                    · (try go_simp); (try with_reducible rfl)
                    try simp only [Act.put, List.setIfInBounds_toArray, List.set_cons_zero, List.set_cons_succ]
                    refine g_take (i := 46) (d := (some 76)) (v := ?_) rfl rfl (by kernel_rfl) (fun _ _ _ h => h) (by rfl) (fun w' hb' => ?_) ?_
                    rotate_left
                    · (try go_simp); (try with_reducible rfl)
                    try simp only [Act.put, List.setIfInBounds_toArray, List.set_cons_zero, List.set_cons_succ]
                    refine g_take (i := 47) (d := (some 77)) (v := ?_) rfl rfl (by kernel_rfl) (fun _ _ _ h => h) (by rfl) (fun w' hb' => ?_) ?_
                    rotate_left
                    · (try go_simp); (try with_reducible rfl)
                    try simp only [Act.put, List.setIfInBounds_toArray, List.set_cons_zero, List.set_cons_succ]
                    refine g_skip (i := 48) (d := (some 78)) rfl rfl (by kernel_rfl) (fun _ _ _ h => h) (by rfl) ?_
                    try simp only [Act.put, List.setIfInBounds_toArray, List.set_cons_zero, List.set_cons_succ]
                    refine g_skip (i := 49) (d := (some 79)) rfl rfl (by kernel_rfl) (fun _ _ _ h => h) (by rfl) ?_
                    try simp only [Act.put, List.setIfInBounds_toArray, List.set_cons_zero, List.set_cons_succ]
                    refine g_skip (i := 50) (d := (some 80)) rfl rfl (by kernel_rfl) (fun _ _ _ h => h) (by rfl) ?_
                    try simp only [Act.put, List.setIfInBounds_toArray, List.set_cons_zero, List.set_cons_succ]
                    refine g_skip (i := 51) (d := (some 81)) rfl rfl (by kernel_rfl) (fun _ _ _ h => h) (by rfl) ?_
                    try simp only [Act.put, List.setIfInBounds_toArray, List.set_cons_zero, List.set_cons_succ]
                    refine g_skip (i := 52) (d := (some 82)) rfl rfl (by kernel_rfl) (fun _ _ _ h => h) (by rfl) ?_
                    try simp only [Act.put, List.setIfInBounds_toArray, List.set_cons_zero, List.set_cons_succ]
                    refine g_skip (i := 53) (d := (some 83)) rfl rfl (by kernel_rfl) (fun _ _ _ h => h) (by rfl) ?_
                    try simp only [Act.put, List.setIfInBounds_toArray, List.set_cons_zero, List.set_cons_succ]
                    refine g_skip (i := 54) (d := (some 84)) rfl rfl (by kernel_rfl) (fun _ _ _ h => h) (by rfl) ?_
                    try simp only [Act.put, List.setIfInBounds_toArray, List.set_cons_zero, List.set_cons_succ]
                    refine g_skip (i := 55) (d := (some 85)) rfl rfl (by kernel_rfl) (fun _ _ _ h => h) (by rfl) ?_
                    try simp only [Act.put, List.setIfInBounds_toArray, List.set_cons_zero, List.set_cons_succ]
                    refine g_skip (i := 56) (d := (some 86)) rfl rfl (by kernel_rfl) (fun _ _ _ h => h) (by rfl) ?_
                    try simp only [Act.put, List.setIfInBounds_toArray, List.set_cons_zero, List.set_cons_succ]
                    refine g_skip (i := 57) (d := (some 87)) rfl rfl (by kernel_rfl) (fun _ _ _ h => h) (by rfl) ?_
                    try simp only [Act.put, List.setIfInBounds_toArray, List.set_cons_zero, List.set_cons_succ]
                    refine g_skip (i := 58) (d := (some 88)) rfl rfl (by kernel_rfl) (fun _ _ _ h => h) (by rfl) ?_
                    try simp only [Act.put, List.setIfInBounds_toArray, List.set_cons_zero, List.set_cons_succ]
                    refine g_skip (i := 59) (d := (some 89)) rfl rfl (by kernel_rfl) (fun _ _ _ h => h) (by rfl) ?_
                    try simp only [Act.put, List.setIfInBounds_toArray, List.set_cons_zero, List.set_cons_succ]
                    refine g_skip (i := 60) (d := (some 90)) rfl rfl (by kernel_rfl) (fun _ _ _ h => h) (by rfl) ?_
                    try simp only [Act.put, List.setIfInBounds_toArray, List.set_cons_zero, List.set_cons_succ]
                    refine g_skip (i := 61) (d := (some 91)) rfl rfl (by kernel_rfl) (fun _ _ _ h => h) (by rfl) ?_
                    try simp only [Act.put, List.setIfInBounds_toArray, List.set_cons_zero, List.set_cons_succ]
                    refine g_take (i := 62) (d := (some 92)) (v := ?_) rfl rfl (by kernel_rfl) (fun _ _ _ h => h) (by rfl) (fun w' hb' => ?_) ?_
                    rotate_left
                    · (try go_simp); (try with_reducible rfl)
                    try simp only [Act.put, List.setIfInBounds_toArray, List.set_cons_zero, List.set_cons_succ]
                    refine g_take (i := 63) (d := (some 93)) (v := ?_) rfl rfl (by kernel_rfl) (fun _ _ _ h => h) (by rfl) (fun w' hb' => ?_) ?_
                    rotate_left
                    · (try go_simp); (try with_reducible rfl)
                    try simp only [Act.put, List.setIfInBounds_toArray, List.set_cons_zero, List.set_cons_succ]
                    refine g_take (i := 64) (d := (some 94)) (v := ?_) rfl rfl (by kernel_rfl) (fun _ _ _ h => h) (by rfl) (fun w' hb' => ?_) ?_
                    rotate_left
                    · (try go_simp); (try with_reducible rfl)
                    try simp only [Act.put, List.setIfInBounds_toArray, List.set_cons_zero, List.set_cons_succ]
                    refine g_done (by kernel_rfl) ?_
                    go_wp2_with fail
                    go_ret2
                    exact ⟨by rw [HR.out, E.out]; rfl, bel.drew⟩
                · have t1 : decide (VY ≤ VX) = false := decide_eq_false k1
                  have E := Lib.hid (show chk14 L = (3, k) by
                    have h := E0.out
                    have hj := HJ.out
                    subst hj
                    rw [h]; exact badGo_bad hlt (bad_fol hlt (by rw [← HX.out]; have h9 := HQ.out; omega) (by rw [← HX.out]; exact HMY.out) (by rw [← HX.out, ← HY.out, HFO.out]; simp [t1])) (by decide))
                  clear E0
                  go_wp2_with fail
                  refine g_start (by kernel_rfl) ?_
                  refine g_take (i := 0) (d := (some 30)) (v := ?_) rfl rfl (by kernel_rfl) (fun _ _ _ h => h) (by rfl) (fun w' hb' => ?_) ?_
                  rotate_left
                  · (try go_simp); (try with_reducible rfl)
                  try simp only [Act.put, List.setIfInBounds_toArray, List.set_cons_zero, List.set_cons_succ]
                  refine g_take (i := 1) (d := (some 31)) (v := ?_) rfl rfl (by kernel_rfl) (fun _ _ _ h => h) (by rfl) (fun w' hb' => ?_) ?_
                  rotate_left
                  · (try go_simp); (try with_reducible rfl)
                  try simp only [Act.put, List.setIfInBounds_toArray, List.set_cons_zero, List.set_cons_succ]
                  refine g_take (i := 2) (d := (some 32)) (v := ?_) rfl rfl (by kernel_rfl) (fun _ _ _ h => h) (by rfl) (fun w' hb' => ?_) ?_
                  rotate_left
                  · (try go_simp); (try with_reducible rfl)
                  try simp only [Act.put, List.setIfInBounds_toArray, List.set_cons_zero, List.set_cons_succ]
                  refine g_take (i := 3) (d := (some 33)) (v := ?_) rfl rfl (by kernel_rfl) (fun _ _ _ h => h) (by rfl) (fun w' hb' => ?_) ?_
                  rotate_left
                  · (try go_simp); (try with_reducible rfl)
                  try simp only [Act.put, List.setIfInBounds_toArray, List.set_cons_zero, List.set_cons_succ]
                  refine g_take (i := 4) (d := (some 34)) (v := ?_) rfl rfl (by kernel_rfl) (fun _ _ _ h => h) (by rfl) (fun w' hb' => ?_) ?_
                  rotate_left
                  · (try go_simp); (try with_reducible rfl)
                  try simp only [Act.put, List.setIfInBounds_toArray, List.set_cons_zero, List.set_cons_succ]
                  refine g_take (i := 5) (d := (some 35)) (v := ?_) rfl rfl (by kernel_rfl) (fun _ _ _ h => h) (by rfl) (fun w' hb' => ?_) ?_
                  rotate_left
                  · (try go_simp); (try with_reducible rfl)
                  try simp only [Act.put, List.setIfInBounds_toArray, List.set_cons_zero, List.set_cons_succ]
                  refine g_take (i := 6) (d := (some 36)) (v := ?_) rfl rfl (by kernel_rfl) (fun _ _ _ h => h) (by rfl) (fun w' hb' => ?_) ?_
                  rotate_left
                  · (try go_simp); (try with_reducible rfl)
                  try simp only [Act.put, List.setIfInBounds_toArray, List.set_cons_zero, List.set_cons_succ]
                  refine g_take (i := 7) (d := (some 37)) (v := ?_) rfl rfl (by kernel_rfl) (fun _ _ _ h => h) (by rfl) (fun w' hb' => ?_) ?_
                  rotate_left
                  · (try go_simp); (try with_reducible rfl)
                  try simp only [Act.put, List.setIfInBounds_toArray, List.set_cons_zero, List.set_cons_succ]
                  refine g_take (i := 8) (d := (some 38)) (v := ?_) rfl rfl (by kernel_rfl) (fun _ _ _ h => h) (by rfl) (fun w' hb' => ?_) ?_
                  rotate_left
                  · have zz := (hb'.cell (p := ⟨b, off + j * 36, none⟩) hbs).trans qj; (try go_simp); (try with_reducible rfl)
                  try simp only [Act.put, List.setIfInBounds_toArray, List.set_cons_zero, List.set_cons_succ]
                  refine g_take (i := 9) (d := (some 39)) (v := ?_) rfl rfl (by kernel_rfl) (fun _ _ _ h => h) (by rfl) (fun w' hb' => ?_) ?_
                  rotate_left
                  · (try go_simp); (try with_reducible rfl)
                  try simp only [Act.put, List.setIfInBounds_toArray, List.set_cons_zero, List.set_cons_succ]
                  refine g_take (i := 10) (d := (some 40)) (v := ?_) rfl rfl (by kernel_rfl) (fun _ _ _ h => h) (by rfl) (fun w' hb' => ?_) ?_
                  rotate_left
                  · (try go_simp); (try with_reducible rfl)
                  try simp only [Act.put, List.setIfInBounds_toArray, List.set_cons_zero, List.set_cons_succ]
                  refine g_take (i := 11) (d := (some 41)) (v := ?_) rfl rfl (by kernel_rfl) (fun _ _ _ h => h) (by rfl) (fun w' hb' => ?_) ?_
                  rotate_left
                  · (try go_simp); (try with_reducible rfl)
                  try simp only [Act.put, List.setIfInBounds_toArray, List.set_cons_zero, List.set_cons_succ]
                  refine g_take (i := 12) (d := (some 42)) (v := ?_) rfl rfl (by kernel_rfl) (fun _ _ _ h => h) (by rfl) (fun w' hb' => ?_) ?_
                  rotate_left
                  · (try go_simp); (try with_reducible rfl)
                  try simp only [Act.put, List.setIfInBounds_toArray, List.set_cons_zero, List.set_cons_succ]
                  refine g_take (i := 13) (d := (some 43)) (v := ?_) rfl rfl (by kernel_rfl) (fun _ _ _ h => h) (by rfl) (fun w' hb' => ?_) ?_
                  rotate_left
                  · have zz := (hb'.cell (p := ⟨b, off + k * 36, none⟩) hbs).trans qk; (try go_simp); (try with_reducible rfl)
                  try simp only [Act.put, List.setIfInBounds_toArray, List.set_cons_zero, List.set_cons_succ]
                  refine g_take (i := 14) (d := (some 44)) (v := ?_) rfl rfl (by kernel_rfl) (fun _ _ _ h => h) (by rfl) (fun w' hb' => ?_) ?_
                  rotate_left
                  · (try go_simp); (try with_reducible rfl)
                  try simp only [Act.put, List.setIfInBounds_toArray, List.set_cons_zero, List.set_cons_succ]
                  refine g_take (i := 15) (d := (some 45)) (v := ?_) rfl rfl (by kernel_rfl) (fun _ _ _ h => h) (by rfl) (fun w' hb' => ?_) ?_
                  rotate_left
                  · (try go_simp); (try with_reducible rfl)
                  try simp only [Act.put, List.setIfInBounds_toArray, List.set_cons_zero, List.set_cons_succ]
                  refine g_take (i := 16) (d := (some 46)) (v := ?_) rfl rfl (by kernel_rfl) (fun _ _ _ h => h) (by rfl) (fun w' hb' => ?_) ?_
                  rotate_left
                  · (try go_simp); (try with_reducible rfl)
                  try simp only [Act.put, List.setIfInBounds_toArray, List.set_cons_zero, List.set_cons_succ]
                  refine g_take (i := 17) (d := (some 47)) (v := ?_) rfl rfl (by kernel_rfl) (fun _ _ _ h => h) (by rfl) (fun w' hb' => ?_) ?_
                  rotate_left
                  · (try go_simp); (try with_reducible rfl)
                  try simp only [Act.put, List.setIfInBounds_toArray, List.set_cons_zero, List.set_cons_succ]
                  refine g_take (i := 18) (d := (some 48)) (v := ?_) rfl rfl (by kernel_rfl) (fun _ _ _ h => h) (by rfl) (fun w' hb' => ?_) ?_
                  rotate_left
                  · (try go_simp); (try with_reducible rfl)
                  try simp only [Act.put, List.setIfInBounds_toArray, List.set_cons_zero, List.set_cons_succ]
                  refine g_take (i := 19) (d := (some 49)) (v := ?_) rfl rfl (by kernel_rfl) (fun _ _ _ h => h) (by rfl) (fun w' hb' => ?_) ?_
                  rotate_left
                  · (try go_simp); (try with_reducible rfl)
                  try simp only [Act.put, List.setIfInBounds_toArray, List.set_cons_zero, List.set_cons_succ]
                  refine g_take (i := 20) (d := (some 50)) (v := ?_) rfl rfl (by kernel_rfl) (fun _ _ _ h => h) (by rfl) (fun w' hb' => ?_) ?_
                  rotate_left
                  · (try go_simp); (try with_reducible rfl)
                  try simp only [Act.put, List.setIfInBounds_toArray, List.set_cons_zero, List.set_cons_succ]
                  refine g_take (i := 21) (d := (some 51)) (v := ?_) rfl rfl (by kernel_rfl) (fun _ _ _ h => h) (by rfl) (fun w' hb' => ?_) ?_
                  rotate_left
                  · (try go_simp); (try with_reducible rfl)
                  try simp only [Act.put, List.setIfInBounds_toArray, List.set_cons_zero, List.set_cons_succ]
                  refine g_take (i := 22) (d := (some 52)) (v := ?_) rfl rfl (by kernel_rfl) (fun _ _ _ h => h) (by rfl) (fun w' hb' => ?_) ?_
                  rotate_left
                  · have zz := (hb'.cell (p := ⟨b, off + j * 36 + 33, none⟩) hbs).trans vj; have zy := zz; rw [show off + j * 36 + 33 = off + j * 36 + 1 + 32 by omega] at zy; (try go_simp); (try with_reducible rfl)
                  try simp only [Act.put, List.setIfInBounds_toArray, List.set_cons_zero, List.set_cons_succ]
                  refine g_take (i := 23) (d := (some 53)) (v := ?_) rfl rfl (by kernel_rfl) (fun _ _ _ h => h) (by rfl) (fun w' hb' => ?_) ?_
                  rotate_left
                  · (try go_simp); (try with_reducible rfl)
                  try simp only [Act.put, List.setIfInBounds_toArray, List.set_cons_zero, List.set_cons_succ]
                  refine g_take (i := 24) (d := (some 54)) (v := ?_) rfl rfl (by kernel_rfl) (fun _ _ _ h => h) (by rfl) (fun w' hb' => ?_) ?_
                  rotate_left
                  · (try go_simp); (try with_reducible rfl)
                  try simp only [Act.put, List.setIfInBounds_toArray, List.set_cons_zero, List.set_cons_succ]
                  refine g_take (i := 25) (d := (some 55)) (v := ?_) rfl rfl (by kernel_rfl) (fun _ _ _ h => h) (by rfl) (fun w' hb' => ?_) ?_
                  rotate_left
                  · (try go_simp); (try with_reducible rfl)
                  try simp only [Act.put, List.setIfInBounds_toArray, List.set_cons_zero, List.set_cons_succ]
                  refine g_take (i := 26) (d := (some 56)) (v := ?_) rfl rfl (by kernel_rfl) (fun _ _ _ h => h) (by rfl) (fun w' hb' => ?_) ?_
                  rotate_left
                  · (try go_simp); (try with_reducible rfl)
                  try simp only [Act.put, List.setIfInBounds_toArray, List.set_cons_zero, List.set_cons_succ]
                  refine g_take (i := 27) (d := (some 57)) (v := ?_) rfl rfl (by kernel_rfl) (fun _ _ _ h => h) (by rfl) (fun w' hb' => ?_) ?_
                  rotate_left
                  · (try go_simp); (try with_reducible rfl)
                  try simp only [Act.put, List.setIfInBounds_toArray, List.set_cons_zero, List.set_cons_succ]
                  refine g_take (i := 28) (d := (some 58)) (v := ?_) rfl rfl (by kernel_rfl) (fun _ _ _ h => h) (by rfl) (fun w' hb' => ?_) ?_
                  rotate_left
                  · have zz := (hb'.cell (p := ⟨b, off + k * 36 + 33, none⟩) hbs).trans vk; have zy := zz; rw [show off + k * 36 + 33 = off + k * 36 + 1 + 32 by omega] at zy; (try go_simp); (try with_reducible rfl)
                  try simp only [Act.put, List.setIfInBounds_toArray, List.set_cons_zero, List.set_cons_succ]
                  refine g_take (i := 29) (d := (some 59)) (v := ?_) rfl rfl (by kernel_rfl) (fun _ _ _ h => h) (by rfl) (fun w' hb' => ?_) ?_
                  rotate_left
                  · (try go_simp); (try with_reducible rfl)
                  try simp only [Act.put, List.setIfInBounds_toArray, List.set_cons_zero, List.set_cons_succ]
                  refine g_take (i := 30) (d := (some 60)) (v := ?_) rfl rfl (by kernel_rfl) (fun _ _ _ h => h) (by rfl) (fun w' hb' => ?_) ?_
                  rotate_left
                  · (try go_simp); (try with_reducible rfl)
                  try simp only [Act.put, List.setIfInBounds_toArray, List.set_cons_zero, List.set_cons_succ]
                  refine g_take (i := 31) (d := (some 61)) (v := ?_) rfl rfl (by kernel_rfl) (fun _ _ _ h => h) (by rfl) (fun w' hb' => ?_) ?_
                  rotate_left
                  · (try go_simp); (try with_reducible rfl)
                  try simp only [Act.put, List.setIfInBounds_toArray, List.set_cons_zero, List.set_cons_succ]
                  refine g_skip (i := 32) (d := (some 62)) rfl rfl (by kernel_rfl) (fun _ _ _ h => h) (by rfl) ?_
                  try simp only [Act.put, List.setIfInBounds_toArray, List.set_cons_zero, List.set_cons_succ]
                  refine g_skip (i := 33) (d := (some 63)) rfl rfl (by kernel_rfl) (fun _ _ _ h => h) (by rfl) ?_
                  try simp only [Act.put, List.setIfInBounds_toArray, List.set_cons_zero, List.set_cons_succ]
                  refine g_skip (i := 34) (d := (some 64)) rfl rfl (by kernel_rfl) (fun _ _ _ h => h) (by rfl) ?_
                  try simp only [Act.put, List.setIfInBounds_toArray, List.set_cons_zero, List.set_cons_succ]
                  refine g_skip (i := 35) (d := (some 65)) rfl rfl (by kernel_rfl) (fun _ _ _ h => h) (by rfl) ?_
                  try simp only [Act.put, List.setIfInBounds_toArray, List.set_cons_zero, List.set_cons_succ]
                  refine g_skip (i := 36) (d := (some 66)) rfl rfl (by kernel_rfl) (fun _ _ _ h => h) (by rfl) ?_
                  try simp only [Act.put, List.setIfInBounds_toArray, List.set_cons_zero, List.set_cons_succ]
                  refine g_skip (i := 37) (d := (some 67)) rfl rfl (by kernel_rfl) (fun _ _ _ h => h) (by rfl) ?_
                  try simp only [Act.put, List.setIfInBounds_toArray, List.set_cons_zero, List.set_cons_succ]
                  refine g_skip (i := 38) (d := (some 68)) rfl rfl (by kernel_rfl) (fun _ _ _ h => h) (by rfl) ?_
                  try simp only [Act.put, List.setIfInBounds_toArray, List.set_cons_zero, List.set_cons_succ]
                  refine g_skip (i := 39) (d := (some 69)) rfl rfl (by kernel_rfl) (fun _ _ _ h => h) (by rfl) ?_
                  try simp only [Act.put, List.setIfInBounds_toArray, List.set_cons_zero, List.set_cons_succ]
                  refine g_skip (i := 40) (d := (some 70)) rfl rfl (by kernel_rfl) (fun _ _ _ h => h) (by rfl) ?_
                  try simp only [Act.put, List.setIfInBounds_toArray, List.set_cons_zero, List.set_cons_succ]
                  refine g_skip (i := 41) (d := (some 71)) rfl rfl (by kernel_rfl) (fun _ _ _ h => h) (by rfl) ?_
                  try simp only [Act.put, List.setIfInBounds_toArray, List.set_cons_zero, List.set_cons_succ]
                  refine g_skip (i := 42) (d := (some 72)) rfl rfl (by kernel_rfl) (fun _ _ _ h => h) (by rfl) ?_
                  try simp only [Act.put, List.setIfInBounds_toArray, List.set_cons_zero, List.set_cons_succ]
                  refine g_skip (i := 43) (d := (some 73)) rfl rfl (by kernel_rfl) (fun _ _ _ h => h) (by rfl) ?_
                  try simp only [Act.put, List.setIfInBounds_toArray, List.set_cons_zero, List.set_cons_succ]
                  refine g_skip (i := 44) (d := (some 74)) rfl rfl (by kernel_rfl) (fun _ _ _ h => h) (by rfl) ?_
                  try simp only [Act.put, List.setIfInBounds_toArray, List.set_cons_zero, List.set_cons_succ]
                  refine g_skip (i := 45) (d := (some 75)) rfl rfl (by kernel_rfl) (fun _ _ _ h => h) (by rfl) ?_
                  try simp only [Act.put, List.setIfInBounds_toArray, List.set_cons_zero, List.set_cons_succ]
                  refine g_take (i := 46) (d := (some 76)) (v := ?_) rfl rfl (by kernel_rfl) (fun _ _ _ h => h) (by rfl) (fun w' hb' => ?_) ?_
                  rotate_left
                  · (try go_simp); (try with_reducible rfl)
                  try simp only [Act.put, List.setIfInBounds_toArray, List.set_cons_zero, List.set_cons_succ]
                  refine g_take (i := 47) (d := (some 77)) (v := ?_) rfl rfl (by kernel_rfl) (fun _ _ _ h => h) (by rfl) (fun w' hb' => ?_) ?_
                  rotate_left
                  · (try go_simp); (try with_reducible rfl)
                  try simp only [Act.put, List.setIfInBounds_toArray, List.set_cons_zero, List.set_cons_succ]
                  refine g_skip (i := 48) (d := (some 78)) rfl rfl (by kernel_rfl) (fun _ _ _ h => h) (by rfl) ?_
                  try simp only [Act.put, List.setIfInBounds_toArray, List.set_cons_zero, List.set_cons_succ]
                  refine g_skip (i := 49) (d := (some 79)) rfl rfl (by kernel_rfl) (fun _ _ _ h => h) (by rfl) ?_
                  try simp only [Act.put, List.setIfInBounds_toArray, List.set_cons_zero, List.set_cons_succ]
                  refine g_skip (i := 50) (d := (some 80)) rfl rfl (by kernel_rfl) (fun _ _ _ h => h) (by rfl) ?_
                  try simp only [Act.put, List.setIfInBounds_toArray, List.set_cons_zero, List.set_cons_succ]
                  refine g_skip (i := 51) (d := (some 81)) rfl rfl (by kernel_rfl) (fun _ _ _ h => h) (by rfl) ?_
                  try simp only [Act.put, List.setIfInBounds_toArray, List.set_cons_zero, List.set_cons_succ]
                  refine g_skip (i := 52) (d := (some 82)) rfl rfl (by kernel_rfl) (fun _ _ _ h => h) (by rfl) ?_
                  try simp only [Act.put, List.setIfInBounds_toArray, List.set_cons_zero, List.set_cons_succ]
                  refine g_skip (i := 53) (d := (some 83)) rfl rfl (by kernel_rfl) (fun _ _ _ h => h) (by rfl) ?_
                  try simp only [Act.put, List.setIfInBounds_toArray, List.set_cons_zero, List.set_cons_succ]
                  refine g_skip (i := 54) (d := (some 84)) rfl rfl (by kernel_rfl) (fun _ _ _ h => h) (by rfl) ?_
                  try simp only [Act.put, List.setIfInBounds_toArray, List.set_cons_zero, List.set_cons_succ]
                  refine g_skip (i := 55) (d := (some 85)) rfl rfl (by kernel_rfl) (fun _ _ _ h => h) (by rfl) ?_
                  try simp only [Act.put, List.setIfInBounds_toArray, List.set_cons_zero, List.set_cons_succ]
                  refine g_skip (i := 56) (d := (some 86)) rfl rfl (by kernel_rfl) (fun _ _ _ h => h) (by rfl) ?_
                  try simp only [Act.put, List.setIfInBounds_toArray, List.set_cons_zero, List.set_cons_succ]
                  refine g_skip (i := 57) (d := (some 87)) rfl rfl (by kernel_rfl) (fun _ _ _ h => h) (by rfl) ?_
                  try simp only [Act.put, List.setIfInBounds_toArray, List.set_cons_zero, List.set_cons_succ]
                  refine g_skip (i := 58) (d := (some 88)) rfl rfl (by kernel_rfl) (fun _ _ _ h => h) (by rfl) ?_
                  try simp only [Act.put, List.setIfInBounds_toArray, List.set_cons_zero, List.set_cons_succ]
                  refine g_skip (i := 59) (d := (some 89)) rfl rfl (by kernel_rfl) (fun _ _ _ h => h) (by rfl) ?_
                  try simp only [Act.put, List.setIfInBounds_toArray, List.set_cons_zero, List.set_cons_succ]
                  refine g_skip (i := 60) (d := (some 90)) rfl rfl (by kernel_rfl) (fun _ _ _ h => h) (by rfl) ?_
                  try simp only [Act.put, List.setIfInBounds_toArray, List.set_cons_zero, List.set_cons_succ]
                  refine g_skip (i := 61) (d := (some 91)) rfl rfl (by kernel_rfl) (fun _ _ _ h => h) (by rfl) ?_
                  try simp only [Act.put, List.setIfInBounds_toArray, List.set_cons_zero, List.set_cons_succ]
                  refine g_take (i := 62) (d := (some 92)) (v := ?_) rfl rfl (by kernel_rfl) (fun _ _ _ h => h) (by rfl) (fun w' hb' => ?_) ?_
                  rotate_left
                  · (try go_simp); (try with_reducible rfl)
                  try simp only [Act.put, List.setIfInBounds_toArray, List.set_cons_zero, List.set_cons_succ]
                  refine g_take (i := 63) (d := (some 93)) (v := ?_) rfl rfl (by kernel_rfl) (fun _ _ _ h => h) (by rfl) (fun w' hb' => ?_) ?_
                  rotate_left
                  · (try go_simp); (try with_reducible rfl)
                  try simp only [Act.put, List.setIfInBounds_toArray, List.set_cons_zero, List.set_cons_succ]
                  refine g_take (i := 64) (d := (some 94)) (v := ?_) rfl rfl (by kernel_rfl) (fun _ _ _ h => h) (by rfl) (fun w' hb' => ?_) ?_
                  rotate_left
                  · (try go_simp); (try with_reducible rfl)
                  try simp only [Act.put, List.setIfInBounds_toArray, List.set_cons_zero, List.set_cons_succ]
                  refine g_done (by kernel_rfl) ?_
                  go_wp2_with fail
                  go_ret2
                  exact ⟨by rw [HR.out, E.out]; rfl, bel.drew⟩
              · have t0 : decide (QY < QX) = false := decide_eq_false k0
                have E := Lib.hid (show chk14 L = (3, k) by
                  have h := E0.out
                  have hj := HJ.out
                  subst hj
                  rw [h]; exact badGo_bad hlt (bad_fol hlt (by rw [← HX.out]; have h9 := HQ.out; omega) (by rw [← HX.out]; exact HMY.out) (by rw [← HX.out, ← HY.out, HFO.out]; simp [t0])) (by decide))
                clear E0
                go_wp2_with fail
                refine g_start (by kernel_rfl) ?_
                refine g_take (i := 0) (d := (some 30)) (v := ?_) rfl rfl (by kernel_rfl) (fun _ _ _ h => h) (by rfl) (fun w' hb' => ?_) ?_
                rotate_left
                · (try go_simp); (try with_reducible rfl)
                try simp only [Act.put, List.setIfInBounds_toArray, List.set_cons_zero, List.set_cons_succ]
                refine g_take (i := 1) (d := (some 31)) (v := ?_) rfl rfl (by kernel_rfl) (fun _ _ _ h => h) (by rfl) (fun w' hb' => ?_) ?_
                rotate_left
                · (try go_simp); (try with_reducible rfl)
                try simp only [Act.put, List.setIfInBounds_toArray, List.set_cons_zero, List.set_cons_succ]
                refine g_take (i := 2) (d := (some 32)) (v := ?_) rfl rfl (by kernel_rfl) (fun _ _ _ h => h) (by rfl) (fun w' hb' => ?_) ?_
                rotate_left
                · (try go_simp); (try with_reducible rfl)
                try simp only [Act.put, List.setIfInBounds_toArray, List.set_cons_zero, List.set_cons_succ]
                refine g_take (i := 3) (d := (some 33)) (v := ?_) rfl rfl (by kernel_rfl) (fun _ _ _ h => h) (by rfl) (fun w' hb' => ?_) ?_
                rotate_left
                · (try go_simp); (try with_reducible rfl)
                try simp only [Act.put, List.setIfInBounds_toArray, List.set_cons_zero, List.set_cons_succ]
                refine g_take (i := 4) (d := (some 34)) (v := ?_) rfl rfl (by kernel_rfl) (fun _ _ _ h => h) (by rfl) (fun w' hb' => ?_) ?_
                rotate_left
                · (try go_simp); (try with_reducible rfl)
                try simp only [Act.put, List.setIfInBounds_toArray, List.set_cons_zero, List.set_cons_succ]
                refine g_take (i := 5) (d := (some 35)) (v := ?_) rfl rfl (by kernel_rfl) (fun _ _ _ h => h) (by rfl) (fun w' hb' => ?_) ?_
                rotate_left
                · (try go_simp); (try with_reducible rfl)
                try simp only [Act.put, List.setIfInBounds_toArray, List.set_cons_zero, List.set_cons_succ]
                refine g_take (i := 6) (d := (some 36)) (v := ?_) rfl rfl (by kernel_rfl) (fun _ _ _ h => h) (by rfl) (fun w' hb' => ?_) ?_
                rotate_left
                · (try go_simp); (try with_reducible rfl)
                try simp only [Act.put, List.setIfInBounds_toArray, List.set_cons_zero, List.set_cons_succ]
                refine g_take (i := 7) (d := (some 37)) (v := ?_) rfl rfl (by kernel_rfl) (fun _ _ _ h => h) (by rfl) (fun w' hb' => ?_) ?_
                rotate_left
                · (try go_simp); (try with_reducible rfl)
                try simp only [Act.put, List.setIfInBounds_toArray, List.set_cons_zero, List.set_cons_succ]
                refine g_take (i := 8) (d := (some 38)) (v := ?_) rfl rfl (by kernel_rfl) (fun _ _ _ h => h) (by rfl) (fun w' hb' => ?_) ?_
                rotate_left
                · have zz := (hb'.cell (p := ⟨b, off + j * 36, none⟩) hbs).trans qj; (try go_simp); (try with_reducible rfl)
                try simp only [Act.put, List.setIfInBounds_toArray, List.set_cons_zero, List.set_cons_succ]
                refine g_take (i := 9) (d := (some 39)) (v := ?_) rfl rfl (by kernel_rfl) (fun _ _ _ h => h) (by rfl) (fun w' hb' => ?_) ?_
                rotate_left
                · (try go_simp); (try with_reducible rfl)
                try simp only [Act.put, List.setIfInBounds_toArray, List.set_cons_zero, List.set_cons_succ]
                refine g_take (i := 10) (d := (some 40)) (v := ?_) rfl rfl (by kernel_rfl) (fun _ _ _ h => h) (by rfl) (fun w' hb' => ?_) ?_
                rotate_left
                · (try go_simp); (try with_reducible rfl)
                try simp only [Act.put, List.setIfInBounds_toArray, List.set_cons_zero, List.set_cons_succ]
                refine g_take (i := 11) (d := (some 41)) (v := ?_) rfl rfl (by kernel_rfl) (fun _ _ _ h => h) (by rfl) (fun w' hb' => ?_) ?_
                rotate_left
                · (try go_simp); (try with_reducible rfl)
                try simp only [Act.put, List.setIfInBounds_toArray, List.set_cons_zero, List.set_cons_succ]
                refine g_take (i := 12) (d := (some 42)) (v := ?_) rfl rfl (by kernel_rfl) (fun _ _ _ h => h) (by rfl) (fun w' hb' => ?_) ?_
                rotate_left
                · (try go_simp); (try with_reducible rfl)
                try simp only [Act.put, List.setIfInBounds_toArray, List.set_cons_zero, List.set_cons_succ]
                refine g_take (i := 13) (d := (some 43)) (v := ?_) rfl rfl (by kernel_rfl) (fun _ _ _ h => h) (by rfl) (fun w' hb' => ?_) ?_
                rotate_left
                · have zz := (hb'.cell (p := ⟨b, off + k * 36, none⟩) hbs).trans qk; (try go_simp); (try with_reducible rfl)
                try simp only [Act.put, List.setIfInBounds_toArray, List.set_cons_zero, List.set_cons_succ]
                refine g_take (i := 14) (d := (some 44)) (v := ?_) rfl rfl (by kernel_rfl) (fun _ _ _ h => h) (by rfl) (fun w' hb' => ?_) ?_
                rotate_left
                · (try go_simp); (try with_reducible rfl)
                try simp only [Act.put, List.setIfInBounds_toArray, List.set_cons_zero, List.set_cons_succ]
                refine g_take (i := 15) (d := (some 45)) (v := ?_) rfl rfl (by kernel_rfl) (fun _ _ _ h => h) (by rfl) (fun w' hb' => ?_) ?_
                rotate_left
                · (try go_simp); (try with_reducible rfl)
                try simp only [Act.put, List.setIfInBounds_toArray, List.set_cons_zero, List.set_cons_succ]
                refine g_skip (i := 16) (d := (some 46)) rfl rfl (by kernel_rfl) (fun _ _ _ h => h) (by rfl) ?_
                try simp only [Act.put, List.setIfInBounds_toArray, List.set_cons_zero, List.set_cons_succ]
                refine g_skip (i := 17) (d := (some 47)) rfl rfl (by kernel_rfl) (fun _ _ _ h => h) (by rfl) ?_
                try simp only [Act.put, List.setIfInBounds_toArray, List.set_cons_zero, List.set_cons_succ]
                refine g_skip (i := 18) (d := (some 48)) rfl rfl (by kernel_rfl) (fun _ _ _ h => h) (by rfl) ?_
                try simp only [Act.put, List.setIfInBounds_toArray, List.set_cons_zero, List.set_cons_succ]
                refine g_skip (i := 19) (d := (some 49)) rfl rfl (by kernel_rfl) (fun _ _ _ h => h) (by rfl) ?_
                try simp only [Act.put, List.setIfInBounds_toArray, List.set_cons_zero, List.set_cons_succ]
                refine g_skip (i := 20) (d := (some 50)) rfl rfl (by kernel_rfl) (fun _ _ _ h => h) (by rfl) ?_
                try simp only [Act.put, List.setIfInBounds_toArray, List.set_cons_zero, List.set_cons_succ]
                refine g_skip (i := 21) (d := (some 51)) rfl rfl (by kernel_rfl) (fun _ _ _ h => h) (by rfl) ?_
                try simp only [Act.put, List.setIfInBounds_toArray, List.set_cons_zero, List.set_cons_succ]
                refine g_skip (i := 22) (d := (some 52)) rfl rfl (by kernel_rfl) (fun _ _ _ h => h) (by rfl) ?_
                try simp only [Act.put, List.setIfInBounds_toArray, List.set_cons_zero, List.set_cons_succ]
                refine g_skip (i := 23) (d := (some 53)) rfl rfl (by kernel_rfl) (fun _ _ _ h => h) (by rfl) ?_
                try simp only [Act.put, List.setIfInBounds_toArray, List.set_cons_zero, List.set_cons_succ]
                refine g_skip (i := 24) (d := (some 54)) rfl rfl (by kernel_rfl) (fun _ _ _ h => h) (by rfl) ?_
                try simp only [Act.put, List.setIfInBounds_toArray, List.set_cons_zero, List.set_cons_succ]
                refine g_skip (i := 25) (d := (some 55)) rfl rfl (by kernel_rfl) (fun _ _ _ h => h) (by rfl) ?_
                try simp only [Act.put, List.setIfInBounds_toArray, List.set_cons_zero, List.set_cons_succ]
                refine g_skip (i := 26) (d := (some 56)) rfl rfl (by kernel_rfl) (fun _ _ _ h => h) (by rfl) ?_
                try simp only [Act.put, List.setIfInBounds_toArray, List.set_cons_zero, List.set_cons_succ]
                refine g_skip (i := 27) (d := (some 57)) rfl rfl (by kernel_rfl) (fun _ _ _ h => h) (by rfl) ?_
                try simp only [Act.put, List.setIfInBounds_toArray, List.set_cons_zero, List.set_cons_succ]
                refine g_skip (i := 28) (d := (some 58)) rfl rfl (by kernel_rfl) (fun _ _ _ h => h) (by rfl) ?_
                try simp only [Act.put, List.setIfInBounds_toArray, List.set_cons_zero, List.set_cons_succ]
                refine g_skip (i := 29) (d := (some 59)) rfl rfl (by kernel_rfl) (fun _ _ _ h => h) (by rfl) ?_
                try simp only [Act.put, List.setIfInBounds_toArray, List.set_cons_zero, List.set_cons_succ]
                refine g_take (i := 30) (d := (some 60)) (v := ?_) rfl rfl (by kernel_rfl) (fun _ _ _ h => h) (by rfl) (fun w' hb' => ?_) ?_
                rotate_left
                · (try go_simp); (try with_reducible rfl)
                try simp only [Act.put, List.setIfInBounds_toArray, List.set_cons_zero, List.set_cons_succ]
                refine g_take (i := 31) (d := (some 61)) (v := ?_) rfl rfl (by kernel_rfl) (fun _ _ _ h => h) (by rfl) (fun w' hb' => ?_) ?_
                rotate_left
                · (try go_simp); (try with_reducible rfl)
                try simp only [Act.put, List.setIfInBounds_toArray, List.set_cons_zero, List.set_cons_succ]
                refine g_skip (i := 32) (d := (some 62)) rfl rfl (by kernel_rfl) (fun _ _ _ h => h) (by rfl) ?_
                try simp only [Act.put, List.setIfInBounds_toArray, List.set_cons_zero, List.set_cons_succ]
                refine g_skip (i := 33) (d := (some 63)) rfl rfl (by kernel_rfl) (fun _ _ _ h => h) (by rfl) ?_
                try simp only [Act.put, List.setIfInBounds_toArray, List.set_cons_zero, List.set_cons_succ]
                refine g_skip (i := 34) (d := (some 64)) rfl rfl (by kernel_rfl) (fun _ _ _ h => h) (by rfl) ?_
                try simp only [Act.put, List.setIfInBounds_toArray, List.set_cons_zero, List.set_cons_succ]
                refine g_skip (i := 35) (d := (some 65)) rfl rfl (by kernel_rfl) (fun _ _ _ h => h) (by rfl) ?_
                try simp only [Act.put, List.setIfInBounds_toArray, List.set_cons_zero, List.set_cons_succ]
                refine g_skip (i := 36) (d := (some 66)) rfl rfl (by kernel_rfl) (fun _ _ _ h => h) (by rfl) ?_
                try simp only [Act.put, List.setIfInBounds_toArray, List.set_cons_zero, List.set_cons_succ]
                refine g_skip (i := 37) (d := (some 67)) rfl rfl (by kernel_rfl) (fun _ _ _ h => h) (by rfl) ?_
                try simp only [Act.put, List.setIfInBounds_toArray, List.set_cons_zero, List.set_cons_succ]
                refine g_skip (i := 38) (d := (some 68)) rfl rfl (by kernel_rfl) (fun _ _ _ h => h) (by rfl) ?_
                try simp only [Act.put, List.setIfInBounds_toArray, List.set_cons_zero, List.set_cons_succ]
                refine g_skip (i := 39) (d := (some 69)) rfl rfl (by kernel_rfl) (fun _ _ _ h => h) (by rfl) ?_
                try simp only [Act.put, List.setIfInBounds_toArray, List.set_cons_zero, List.set_cons_succ]
                refine g_skip (i := 40) (d := (some 70)) rfl rfl (by kernel_rfl) (fun _ _ _ h => h) (by rfl) ?_
                try simp only [Act.put, List.setIfInBounds_toArray, List.set_cons_zero, List.set_cons_succ]
                refine g_skip (i := 41) (d := (some 71)) rfl rfl (by kernel_rfl) (fun _ _ _ h => h) (by rfl) ?_
                try simp only [Act.put, List.setIfInBounds_toArray, List.set_cons_zero, List.set_cons_succ]
                refine g_skip (i := 42) (d := (some 72)) rfl rfl (by kernel_rfl) (fun _ _ _ h => h) (by rfl) ?_
                try simp only [Act.put, List.setIfInBounds_toArray, List.set_cons_zero, List.set_cons_succ]
                refine g_skip (i := 43) (d := (some 73)) rfl rfl (by kernel_rfl) (fun _ _ _ h => h) (by rfl) ?_
                try simp only [Act.put, List.setIfInBounds_toArray, List.set_cons_zero, List.set_cons_succ]
                refine g_skip (i := 44) (d := (some 74)) rfl rfl (by kernel_rfl) (fun _ _ _ h => h) (by rfl) ?_
                try simp only [Act.put, List.setIfInBounds_toArray, List.set_cons_zero, List.set_cons_succ]
                refine g_skip (i := 45) (d := (some 75)) rfl rfl (by kernel_rfl) (fun _ _ _ h => h) (by rfl) ?_
                try simp only [Act.put, List.setIfInBounds_toArray, List.set_cons_zero, List.set_cons_succ]
                refine g_take (i := 46) (d := (some 76)) (v := ?_) rfl rfl (by kernel_rfl) (fun _ _ _ h => h) (by rfl) (fun w' hb' => ?_) ?_
                rotate_left
                · (try go_simp); (try with_reducible rfl)
                try simp only [Act.put, List.setIfInBounds_toArray, List.set_cons_zero, List.set_cons_succ]
                refine g_take (i := 47) (d := (some 77)) (v := ?_) rfl rfl (by kernel_rfl) (fun _ _ _ h => h) (by rfl) (fun w' hb' => ?_) ?_
                rotate_left
                · (try go_simp); (try with_reducible rfl)
                try simp only [Act.put, List.setIfInBounds_toArray, List.set_cons_zero, List.set_cons_succ]
                refine g_skip (i := 48) (d := (some 78)) rfl rfl (by kernel_rfl) (fun _ _ _ h => h) (by rfl) ?_
                try simp only [Act.put, List.setIfInBounds_toArray, List.set_cons_zero, List.set_cons_succ]
                refine g_skip (i := 49) (d := (some 79)) rfl rfl (by kernel_rfl) (fun _ _ _ h => h) (by rfl) ?_
                try simp only [Act.put, List.setIfInBounds_toArray, List.set_cons_zero, List.set_cons_succ]
                refine g_skip (i := 50) (d := (some 80)) rfl rfl (by kernel_rfl) (fun _ _ _ h => h) (by rfl) ?_
                try simp only [Act.put, List.setIfInBounds_toArray, List.set_cons_zero, List.set_cons_succ]
                refine g_skip (i := 51) (d := (some 81)) rfl rfl (by kernel_rfl) (fun _ _ _ h => h) (by rfl) ?_
                try simp only [Act.put, List.setIfInBounds_toArray, List.set_cons_zero, List.set_cons_succ]
                refine g_skip (i := 52) (d := (some 82)) rfl rfl (by kernel_rfl) (fun _ _ _ h => h) (by rfl) ?_
                try simp only [Act.put, List.setIfInBounds_toArray, List.set_cons_zero, List.set_cons_succ]
                refine g_skip (i := 53) (d := (some 83)) rfl rfl (by kernel_rfl) (fun _ _ _ h => h) (by rfl) ?_
                try simp only [Act.put, List.setIfInBounds_toArray, List.set_cons_zero, List.set_cons_succ]
                refine g_skip (i := 54) (d := (some 84)) rfl rfl (by kernel_rfl) (fun _ _ _ h => h) (by rfl) ?_
                try simp only [Act.put, List.setIfInBounds_toArray, List.set_cons_zero, List.set_cons_succ]
                refine g_skip (i := 55) (d := (some 85)) rfl rfl (by kernel_rfl) (fun _ _ _ h => h) (by rfl) ?_
                try simp only [Act.put, List.setIfInBounds_toArray, List.set_cons_zero, List.set_cons_succ]
                refine g_skip (i := 56) (d := (some 86)) rfl rfl (by kernel_rfl) (fun _ _ _ h => h) (by rfl) ?_
                try simp only [Act.put, List.setIfInBounds_toArray, List.set_cons_zero, List.set_cons_succ]
                refine g_skip (i := 57) (d := (some 87)) rfl rfl (by kernel_rfl) (fun _ _ _ h => h) (by rfl) ?_
                try simp only [Act.put, List.setIfInBounds_toArray, List.set_cons_zero, List.set_cons_succ]
                refine g_skip (i := 58) (d := (some 88)) rfl rfl (by kernel_rfl) (fun _ _ _ h => h) (by rfl) ?_
                try simp only [Act.put, List.setIfInBounds_toArray, List.set_cons_zero, List.set_cons_succ]
                refine g_skip (i := 59) (d := (some 89)) rfl rfl (by kernel_rfl) (fun _ _ _ h => h) (by rfl) ?_
                try simp only [Act.put, List.setIfInBounds_toArray, List.set_cons_zero, List.set_cons_succ]
                refine g_skip (i := 60) (d := (some 90)) rfl rfl (by kernel_rfl) (fun _ _ _ h => h) (by rfl) ?_
                try simp only [Act.put, List.setIfInBounds_toArray, List.set_cons_zero, List.set_cons_succ]
                refine g_skip (i := 61) (d := (some 91)) rfl rfl (by kernel_rfl) (fun _ _ _ h => h) (by rfl) ?_
                try simp only [Act.put, List.setIfInBounds_toArray, List.set_cons_zero, List.set_cons_succ]
                refine g_take (i := 62) (d := (some 92)) (v := ?_) rfl rfl (by kernel_rfl) (fun _ _ _ h => h) (by rfl) (fun w' hb' => ?_) ?_
                rotate_left
                · (try go_simp); (try with_reducible rfl)
                try simp only [Act.put, List.setIfInBounds_toArray, List.set_cons_zero, List.set_cons_succ]
                refine g_take (i := 63) (d := (some 93)) (v := ?_) rfl rfl (by kernel_rfl) (fun _ _ _ h => h) (by rfl) (fun w' hb' => ?_) ?_
                rotate_left
                · (try go_simp); (try with_reducible rfl)
                try simp only [Act.put, List.setIfInBounds_toArray, List.set_cons_zero, List.set_cons_succ]
                refine g_take (i := 64) (d := (some 94)) (v := ?_) rfl rfl (by kernel_rfl) (fun _ _ _ h => h) (by rfl) (fun w' hb' => ?_) ?_
                rotate_left
                · (try go_simp); (try with_reducible rfl)
                try simp only [Act.put, List.setIfInBounds_toArray, List.set_cons_zero, List.set_cons_succ]
                refine g_done (by kernel_rfl) ?_
                go_wp2_with fail
                go_ret2
                exact ⟨by rw [HR.out, E.out]; rfl, bel.drew⟩
      · obtain rfl : k = L.length := by omega
        have E := Lib.hid (show chk14 L = (0, 0) by rw [E0.out, Nat.sub_self]; rfl)
        go_wp2_with fail
        go_ret2
        exact ⟨by rw [HR.out, E.out]; rfl, bel⟩
theorem refIs14_any (v : Value) (L : List Sn) (w : World) (tab : TabAt w) (h : RdK 36 snC w v L) (hrs : RdSn w L) (hsz : SzSn L) (hln : LenSn L) :
    Calls Tryd.prog 47 #[v] w fun e w' => e = .returned (.bool (isSn L)) ∧ Below w.heap.size w w' := by
  have CK := refCheck14_any v L w tab h hrs hsz hln
  obtain ⟨a, n, c, rfl⟩ : ∃ a n c, v = .slice a n c := by obtain ⟨a, c, e, _⟩ := h; exact ⟨_, _, _, e⟩
  obtain ⟨N, hN⟩ : ∃ N, N = (chk14 L).1 := ⟨_, rfl⟩
  obtain ⟨M, hM⟩ : ∃ N, N = (chk14 L).2 := ⟨_, rfl⟩
  unfold isSn
  rw [← hN, ← hM] at CK
  rw [← hN]
  clear hN hM h
  cases h0 : (N == 0) with
  | true =>
    have e0 : N = 0 := by simpa using h0
    subst e0
    clear h0
    go_enter Tryd.func47, Tryd.ntmps47
    go_wp2_with fail
    refine CK.mono ?_
    rintro e w2 ⟨rfl, g⟩
    go_wp2_with fail
    go_ret
    exact ⟨rfl, g⟩
  | false =>
    have e0 : N ≠ 0 := by simpa using h0
    have e1 : ((N : Int) == 0) = false := by simp; omega
    clear h0 e0
    go_enter Tryd.func47, Tryd.ntmps47
    go_wp2_with fail
    refine CK.mono ?_
    rintro e w2 ⟨rfl, g⟩
    go_wp2_with fail
    go_ret
    exact ⟨rfl, g⟩
end Go.Proofs.YtbdfcgffkonbiaaDoor
