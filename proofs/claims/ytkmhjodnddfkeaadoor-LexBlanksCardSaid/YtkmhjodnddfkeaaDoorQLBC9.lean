/- Lex: skip. Written by wip/tools/gen16c.py. -/
import Derived.Test.YtkmhjodnddfkeaaDoorQLBC8
import Derived.Shelf.Abstract
namespace Go.Proofs.YtkmhjodnddfkeaaDoor
open Go Go.RowKit
set_option linter.unusedVariables false
set_option linter.unusedSimpArgs false
set_option maxRecDepth 100000
theorem sk_true : ∀ r : List UInt8, skS true r = spF notNl r + skS false (r.drop (spF notNl r))
  | [] => rfl
  | c :: r => by
    by_cases h : c = 10
    · subst h
      have e : spF notNl (10 :: r) = 0 := by unfold spF; rw [List.takeWhile_cons_of_neg (by decide)]; rfl
      rw [e]
      simp [skS, blankB]
    · have hn : notNl c = true := by
        unfold notNl
        rw [decide_eq_true_eq]
        intro e
        exact h (UInt8.toNat_inj.1 (by rw [e]; rfl))
      have e : spF notNl (c :: r) = spF notNl r + 1 := by unfold spF; rw [List.takeWhile_cons_of_pos hn]; rfl
      rw [e, List.drop_succ_cons]
      have := sk_true r
      simp only [skS, h, beq_iff_eq, if_false]
      omega
theorem sk_rem (r : List UInt8) : skS false (35 :: r) = spF notNl (35 :: r) + skS false ((35 :: r).drop (spF notNl (35 :: r))) := by
  have e : spF notNl (35 :: r) = spF notNl r + 1 := by unfold spF; rw [List.takeWhile_cons_of_pos (by decide)]; rfl
  rw [e, List.drop_succ_cons]
  have := sk_true r
  have e2 : skS false (35 :: r) = skS true r + 1 := rfl
  omega
def atOf (p : Nat) (w : World) : Nat := match w.cell? ⟨p, 1, none⟩ with
  | some (.int _ x) => x.toNat
  | _ => 0
theorem atOf_lx {w : World} {p : Nat} {s : List UInt8} {a : Nat} (h : Lx w p s a) : atOf p w = a := by
  unfold atOf
  rw [(block_cells2 h).2.1]
  simp
theorem lx_store {w : World} {p : Nat} {s : List UInt8} {a b : Nat} (h : Lx w p s a) : Lx (w.setCell ⟨p, 1, none⟩ (.int .i64 (b : Int))) p s b := by
  unfold Lx
  simpa using set_at (i := 1) (u := .int .i64 (b : Int)) h
set_option maxHeartbeats 4000000 in
theorem skip_any (p : Nat) (s : List UInt8) (a : Nat) (w : World) (h : Lx w p s a) (ha : a ≤ s.length) (hs : s.length ≤ 4096) :
    Calls Tryd.prog 16 #[.pointer (some ⟨p, 0, none⟩)] w fun e w' => e = .returned (.tuple #[]) ∧ Lx w' p s (a + skS false (s.drop a)) ∧ w.grownBy w' (some p) := by
  have hsz := str_size s
  have HL := Lib.hid h
  clear h
  go_enter Tryd.func16, Tryd.ntmps16
  go_wp2
  go_loopw [] (fun wr => ∃ m : Nat, m ≤ s.length ∧ Lx wr p s m ∧ Hid (a + skS false (s.drop a) = m + skS false (s.drop m)) ∧ Hid (w.grownBy wr (some p))) (fun wr => s.length - atOf p wr)
  case atStart => exact ⟨a, ha, HL.out, Lib.hid rfl, Lib.hid grown_reflB⟩
  case round =>
    obtain ⟨m, hmk, q0, HM, HG⟩ := hrel
    have hat := Lib.hid (atOf_lx q0)
    obtain ⟨c0, c1, cf⟩ := block_cells2 q0
    have hlp := lt_of_block q0
    by_cases hlt : m < s.length
    · have h1 : ((m : Int) < (s.length : Int)) := by omega
      have h2 : decide ((m : Int) < (s.length : Int)) = true := decide_eq_true h1
      have HD := Lib.hid (show s.drop m = s[m] :: s.drop (m + 1) from List.drop_eq_getElem_cons hlt)
      have HGet : s.getD m 0 = s[m] := by simp [List.getD, hlt]
      obtain ⟨c, hc⟩ : ∃ c, c = s[m] := ⟨_, rfl⟩
      rw [← hc] at HD HGet
      have HC := Lib.hid (show bv (s.getD m 0) = .int .u8 (c.toNat : Int) by rw [HGet]; rfl)
      clear hc HGet
      go_wp2
      refine g_start (by kernel_rfl) ?_
      refine g_take (i := 0) (d := (some 2)) (v := ?_) rfl rfl (by kernel_rfl) (fun _ _ _ h => h) (by rfl) (fun w' hb' => ?_) ?_
      rotate_left
      · (try go_simp); (try with_reducible rfl)
      try simp only [Act.put, List.setIfInBounds_toArray, List.set_cons_zero, List.set_cons_succ]
      refine g_take (i := 1) (d := (some 3)) (v := ?_) rfl rfl (by kernel_rfl) (fun _ _ _ h => h) (by rfl) (fun w' hb' => ?_) ?_
      rotate_left
      · (try go_simp); (try with_reducible rfl)
      try simp only [Act.put, List.setIfInBounds_toArray, List.set_cons_zero, List.set_cons_succ]
      refine g_take (i := 2) (d := (some 4)) (v := ?_) rfl rfl (by kernel_rfl) (fun _ _ _ h => h) (by rfl) (fun w' hb' => ?_) ?_
      rotate_left
      · (try go_simp); (try with_reducible rfl)
      try simp only [Act.put, List.setIfInBounds_toArray, List.set_cons_zero, List.set_cons_succ]
      refine g_take (i := 3) (d := (some 5)) (v := ?_) rfl rfl (by kernel_rfl) (fun _ _ _ h => h) (by rfl) (fun w' hb' => ?_) ?_
      rotate_left
      · have z := (hb'.cell (p := ⟨p, 1, none⟩) hlp).trans c1; (try go_simp); (try with_reducible rfl)
      try simp only [Act.put, List.setIfInBounds_toArray, List.set_cons_zero, List.set_cons_succ]
      refine g_take (i := 4) (d := (some 6)) (v := ?_) rfl rfl (by kernel_rfl) (fun _ _ _ h => h) (by rfl) (fun w' hb' => ?_) ?_
      rotate_left
      · (try go_simp); (try with_reducible rfl)
      try simp only [Act.put, List.setIfInBounds_toArray, List.set_cons_zero, List.set_cons_succ]
      refine g_take (i := 5) (d := (some 7)) (v := ?_) rfl rfl (by kernel_rfl) (fun _ _ _ h => h) (by rfl) (fun w' hb' => ?_) ?_
      rotate_left
      · (try go_simp); (try with_reducible rfl)
      try simp only [Act.put, List.setIfInBounds_toArray, List.set_cons_zero, List.set_cons_succ]
      refine g_take (i := 6) (d := (some 8)) (v := ?_) rfl rfl (by kernel_rfl) (fun _ _ _ h => h) (by rfl) (fun w' hb' => ?_) ?_
      rotate_left
      · (try go_simp); (try with_reducible rfl)
      try simp only [Act.put, List.setIfInBounds_toArray, List.set_cons_zero, List.set_cons_succ]
      refine g_take (i := 7) (d := (some 9)) (v := ?_) rfl rfl (by kernel_rfl) (fun _ _ _ h => h) (by rfl) (fun w' hb' => ?_) ?_
      rotate_left
      · have z := (hb'.cell (p := ⟨p, 0, none⟩) hlp).trans c0; (try go_simp); (try with_reducible rfl)
      try simp only [Act.put, List.setIfInBounds_toArray, List.set_cons_zero, List.set_cons_succ]
      refine g_take (i := 8) (d := (some 10)) (v := ?_) rfl rfl (by kernel_rfl) (fun _ _ _ h => h) (by rfl) (fun w' hb' => ?_) ?_
      rotate_left
      · (try go_simp); (try with_reducible rfl)
      try simp only [Act.put, List.setIfInBounds_toArray, List.set_cons_zero, List.set_cons_succ]
      refine g_take (i := 9) (d := (some 11)) (v := ?_) rfl rfl (by kernel_rfl) (fun _ _ _ h => h) (by rfl) (fun w' hb' => ?_) ?_
      rotate_left
      · (try go_simp); (try with_reducible rfl)
      try simp only [Act.put, List.setIfInBounds_toArray, List.set_cons_zero, List.set_cons_succ]
      refine g_done (by kernel_rfl) ?_
      obtain ⟨W1, hW1⟩ : ∃ W, W = wr.drew := ⟨_, rfl⟩
      have q1 : Lx W1 p s m := by rw [hW1]; exact q0
      have HG1 := Lib.hid (show w.grownBy W1 (some p) by rw [hW1]; exact grown_drewB HG.out)
      rw [← hW1]
      clear c0 c1 cf hW1 q0 HG
      obtain ⟨c0, c1, cf⟩ := block_cells2 q1
      have hlp := lt_of_block q1
      go_wp2
      refine g_start (by kernel_rfl) ?_
      refine g_take (i := 0) (d := (some 12)) (v := ?_) rfl rfl (by kernel_rfl) (fun _ _ _ h => h) (by rfl) (fun w' hb' => ?_) ?_
      rotate_left
      · (try go_simp); (try with_reducible rfl)
      try simp only [Act.put, List.setIfInBounds_toArray, List.set_cons_zero, List.set_cons_succ]
      refine g_take (i := 1) (d := (some 13)) (v := ?_) rfl rfl (by kernel_rfl) (fun _ _ _ h => h) (by rfl) (fun w' hb' => ?_) ?_
      rotate_left
      · (try go_simp); (try with_reducible rfl)
      try simp only [Act.put, List.setIfInBounds_toArray, List.set_cons_zero, List.set_cons_succ]
      refine g_take (i := 2) (d := (some 14)) (v := ?_) rfl rfl (by kernel_rfl) (fun _ _ _ h => h) (by rfl) (fun w' hb' => ?_) ?_
      rotate_left
      · (try go_simp); (try with_reducible rfl)
      try simp only [Act.put, List.setIfInBounds_toArray, List.set_cons_zero, List.set_cons_succ]
      refine g_take (i := 3) (d := (some 15)) (v := ?_) rfl rfl (by kernel_rfl) (fun _ _ _ h => h) (by rfl) (fun w' hb' => ?_) ?_
      rotate_left
      · have z := (hb'.cell (p := ⟨p, 0, none⟩) hlp).trans c0; (try go_simp); (try with_reducible rfl)
      try simp only [Act.put, List.setIfInBounds_toArray, List.set_cons_zero, List.set_cons_succ]
      refine g_take (i := 4) (d := (some 16)) (v := ?_) rfl rfl (by kernel_rfl) (fun _ _ _ h => h) (by rfl) (fun w' hb' => ?_) ?_
      rotate_left
      · (try go_simp); (try with_reducible rfl)
      try simp only [Act.put, List.setIfInBounds_toArray, List.set_cons_zero, List.set_cons_succ]
      refine g_take (i := 5) (d := (some 17)) (v := ?_) rfl rfl (by kernel_rfl) (fun _ _ _ h => h) (by rfl) (fun w' hb' => ?_) ?_
      rotate_left
      · (try go_simp); (try with_reducible rfl)
      try simp only [Act.put, List.setIfInBounds_toArray, List.set_cons_zero, List.set_cons_succ]
      refine g_take (i := 6) (d := (some 18)) (v := ?_) rfl rfl (by kernel_rfl) (fun _ _ _ h => h) (by rfl) (fun w' hb' => ?_) ?_
      rotate_left
      · (try go_simp); (try with_reducible rfl)
      try simp only [Act.put, List.setIfInBounds_toArray, List.set_cons_zero, List.set_cons_succ]
      refine g_take (i := 7) (d := (some 19)) (v := ?_) rfl rfl (by kernel_rfl) (fun _ _ _ h => h) (by rfl) (fun w' hb' => ?_) ?_
      rotate_left
      · have z := (hb'.cell (p := ⟨p, 1, none⟩) hlp).trans c1; (try go_simp); (try with_reducible rfl)
      try simp only [Act.put, List.setIfInBounds_toArray, List.set_cons_zero, List.set_cons_succ]
      refine g_take (i := 8) (d := (some 20)) (v := ?_) rfl rfl (by kernel_rfl) (fun _ _ _ h => h) (by rfl) (fun w' hb' => ?_) ?_
      rotate_left
      · refine str_index_op 9 (.tmp 15) (.tmp 19) ?_ s m ?_ ?_ hlt (.int .u8 (c.toNat : Int)) HC.out ?_ <;> rfl; (try go_simp); (try with_reducible rfl)
      try simp only [Act.put, List.setIfInBounds_toArray, List.set_cons_zero, List.set_cons_succ]
      refine g_done (by kernel_rfl) ?_
      obtain ⟨W2, hW2⟩ : ∃ W, W = W1.drew := ⟨_, rfl⟩
      have q2 : Lx W2 p s m := by rw [hW2]; exact q1
      have HG2 := Lib.hid (show w.grownBy W2 (some p) by rw [hW2]; exact grown_drewB HG1.out)
      rw [← hW2]
      clear c0 c1 cf hW2 q1 HG1
      obtain ⟨c0, c1, cf⟩ := block_cells2 q2
      have hlp := lt_of_block q2
      by_cases hb : c.toNat = 32 ∨ c.toNat = 9 ∨ c.toNat = 10
      · have HU := Lib.hid (show a + skS false (s.drop a) = (m + 1) + skS false (s.drop (m + 1)) by
          have e : skS false (c :: s.drop (m + 1)) = skS false (s.drop (m + 1)) + 1 := by
            have hbl : blankB c = true := by
              unfold blankB
              rcases hb with e | e | e
              · obtain rfl : c = 32 := UInt8.toNat_inj.1 e; rfl
              · obtain rfl : c = 9 := UInt8.toNat_inj.1 e; rfl
              · obtain rfl : c = 10 := UInt8.toNat_inj.1 e; rfl
            conv => lhs; unfold skS
            rw [if_pos hbl]
          rw [HM.out, HD.out, e]; omega)
        have hs1 : (m : Int) + 1 = ((m + 1 : Nat) : Int) := by push_cast; rfl
        have Y1 := Lib.hid (lx_store (b := m + 1) q2)
        have YG := Lib.hid (grown_setB (i := 1) (u := .int .i64 ((m + 1 : Nat) : Int)) HG2.out)
        have YS := Lib.hid hs1
        clear hs1
        generalize c.toNat = cn at *
        rcases hb with rfl | rfl | rfl
        all_goals
          clear HC HD HM
          go_wp2
          rw [YS.out]
          exact ⟨⟨m + 1, by omega, Y1.out, HU, YG⟩, by rw [atOf_lx Y1.out, hat.out]; omega⟩
      · by_cases hr : c.toNat = 35
        · obtain ⟨k, hk⟩ : ∃ k, k = spF notNl (s.drop m) := ⟨_, rfl⟩
          have hkl : k ≤ s.length - m := by rw [hk]; have := sp_le notNl (s.drop m); rwa [List.length_drop] at this
          have hk1 : 1 ≤ k := by
            rw [hk, HD.out]
            obtain rfl : c = 35 := UInt8.toNat_inj.1 hr
            unfold spF
            rw [List.takeWhile_cons_of_pos (by decide), List.length_cons]
            omega
          have HU := Lib.hid (show a + skS false (s.drop a) = (m + k) + skS false (s.drop (m + k)) by
            rw [HM.out]
            have e : skS false (s.drop m) = k + skS false ((s.drop m).drop k) := by
              rw [hk, HD.out]
              obtain rfl : c = 35 := UInt8.toNat_inj.1 hr
              exact sk_rem _
            rw [e, List.drop_drop]; omega)
          have HKK := Lib.hid hk
          have YS := Lib.hid (show (m : Int) + (k : Int) = ((m + k : Nat) : Int) by push_cast; rfl)
          have hc1 : ¬ c.toNat = 32 := fun e => hb (.inl e)
          have hc2 : ¬ c.toNat = 9 := fun e => hb (.inr (.inl e))
          have hc3 : ¬ c.toNat = 10 := fun e => hb (.inr (.inr e))
          have SH : Lx W2.drew p s m := q2
          have HG2d := Lib.hid (show w.grownBy W2.drew (some p) from grown_drewB HG2.out)
          generalize c.toNat = cn at *
          subst hr
          clear hb hc1 hc2 hc3 HC HD HM hk q2
          go_wp2
          refine v_start 9 (fun w' => Lx w' p s m) (by kernel_rfl) ?_
          refine v_take (i := 0) (d := (some 34)) (v := ?_) rfl rfl (by kernel_rfl) (fun _ _ _ h => h) (by rfl) SH (fun w' hb' => ?_) ?_
          rotate_left
          · (try go_simp); (try with_reducible rfl)
          try simp only [Act.put, List.setIfInBounds_toArray, List.set_cons_zero, List.set_cons_succ]
          refine v_take (i := 1) (d := (some 35)) (v := ?_) rfl rfl (by kernel_rfl) (fun _ _ _ h => h) (by rfl) SH (fun w' hb' => ?_) ?_
          rotate_left
          · (try go_simp); (try with_reducible rfl)
          try simp only [Act.put, List.setIfInBounds_toArray, List.set_cons_zero, List.set_cons_succ]
          refine v_take (i := 2) (d := (some 36)) (v := ?_) rfl rfl (by kernel_rfl) (fun _ _ _ h => h) (by rfl) SH (fun w' hb' => ?_) ?_
          rotate_left
          · (try go_simp); (try with_reducible rfl)
          try simp only [Act.put, List.setIfInBounds_toArray, List.set_cons_zero, List.set_cons_succ]
          refine v_take (i := 3) (d := (some 37)) (v := ?_) rfl rfl (by kernel_rfl) (fun _ _ _ h => h) (by rfl) SH (fun w' hb' => ?_) ?_
          rotate_left
          · have z := (block_cells2 hb').2.1; (try go_simp); (try with_reducible rfl)
          try simp only [Act.put, List.setIfInBounds_toArray, List.set_cons_zero, List.set_cons_succ]
          refine v_take (i := 4) (d := (some 38)) (v := ?_) rfl rfl (by kernel_rfl) (fun _ _ _ h => h) (by rfl) SH (fun w' hb' => ?_) ?_
          rotate_left
          · (try go_simp); (try with_reducible rfl)
          try simp only [Act.put, List.setIfInBounds_toArray, List.set_cons_zero, List.set_cons_succ]
          refine v_run (i := 5) rfl (by kernel_rfl) (by kernel_rfl) (by rfl) (fun K hK => ?_)
          go_simp; refine (span_any 20 notNl (enters_of Tryd.func20 (by kernel_rfl) rfl) notNl_any p s m _ SH hmk hs).mono ?_; rintro e w5 ⟨rfl, g5⟩
          have S5 := Lx.below SH g5
          have G5 := grown_belowB HG2d.out g5
          refine hK _ _ ⟨S5, ?_⟩; clear hK K SH; have SH := S5
          try simp only [Act.put, List.setIfInBounds_toArray, List.set_cons_zero, List.set_cons_succ]
          refine v_take (i := 6) (d := (some 40)) (v := ?_) rfl rfl (by kernel_rfl) (fun _ _ _ h => h) (by rfl) SH (fun w' hb' => ?_) ?_
          rotate_left
          · (try go_simp); (try with_reducible rfl)
          try simp only [Act.put, List.setIfInBounds_toArray, List.set_cons_zero, List.set_cons_succ]
          refine v_take (i := 7) (d := (some 41)) (v := ?_) rfl rfl (by kernel_rfl) (fun _ _ _ h => h) (by rfl) SH (fun w' hb' => ?_) ?_
          rotate_left
          · (try go_simp); (try with_reducible rfl)
          try simp only [Act.put, List.setIfInBounds_toArray, List.set_cons_zero, List.set_cons_succ]
          refine v_take (i := 8) (d := (some 42)) (v := ?_) rfl rfl (by kernel_rfl) (fun _ _ _ h => h) (by rfl) SH (fun w' hb' => ?_) ?_
          rotate_left
          · (try go_simp); (try with_reducible rfl)
          try simp only [Act.put, List.setIfInBounds_toArray, List.set_cons_zero, List.set_cons_succ]
          refine v_last (i := 9) rfl (by kernel_rfl) (by kernel_rfl) (by kernel_rfl) (by rfl) (fun K hK => ?_)
          have z := (block_cells2 SH).2.1; have fz := (block_cells2 SH).2.2; go_simp; refine hK _ _ ?_; clear hK K
          go_wp2
          have YW : IntKind.i64.wrap ((m : Int) + (spF notNl (s.drop m) : Int)) = ((m + k : Nat) : Int) := by rw [← HKK.out, IntKind.wrap_i64]; push_cast; omega
          rw [YW]
          exact ⟨⟨m + k, by omega, lx_store SH, HU, Lib.hid (grown_setB G5)⟩, by rw [atOf_lx (lx_store SH), hat.out]; omega⟩
        · have HU := Lib.hid (show a + skS false (s.drop a) = m by
            have e : skS false (c :: s.drop (m + 1)) = 0 := by
              have h1 : blankB c = false := by
                unfold blankB
                simp only [Bool.or_eq_false_iff, beq_eq_false_iff_ne]
                refine ⟨?_, ?_, ?_⟩ <;> (rintro rfl; simp at hb)
              have h2 : (c == 35) = false := by rw [beq_eq_false_iff_ne]; rintro rfl; simp at hr
              conv => lhs; unfold skS
              rw [if_neg (by rw [h1]; simp), if_neg (by rw [h2]; simp)]
            rw [HM.out, HD.out, e]; rfl)
          have hc1 : ((c.toNat : Int) == 32) = false := by simp; omega
          have hc2 : ((c.toNat : Int) == 9) = false := by simp; omega
          have hc3 : ((c.toNat : Int) == 10) = false := by simp; omega
          have hc4 : ((c.toNat : Int) == 35) = false := by simp; omega
          clear HC HD HM hb hr
          generalize c.toNat = cn at *
          go_wp2
          refine bodyPost_ret (results_none rfl _ _ _) rfl ?_
          exact ⟨rfl, by rw [HU.out]; exact q2, HG2.out⟩
    · have h1 : ¬ ((m : Int) < (s.length : Int)) := by omega
      have h2 : decide ((m : Int) < (s.length : Int)) = false := decide_eq_false h1
      have HU := Lib.hid (show a + skS false (s.drop a) = m by rw [HM.out, List.drop_of_length_le (by omega)]; rfl)
      clear HM
      go_wp2
      refine g_start (by kernel_rfl) ?_
      refine g_take (i := 0) (d := (some 2)) (v := ?_) rfl rfl (by kernel_rfl) (fun _ _ _ h => h) (by rfl) (fun w' hb' => ?_) ?_
      rotate_left
      · (try go_simp); (try with_reducible rfl)
      try simp only [Act.put, List.setIfInBounds_toArray, List.set_cons_zero, List.set_cons_succ]
      refine g_take (i := 1) (d := (some 3)) (v := ?_) rfl rfl (by kernel_rfl) (fun _ _ _ h => h) (by rfl) (fun w' hb' => ?_) ?_
      rotate_left
      · (try go_simp); (try with_reducible rfl)
      try simp only [Act.put, List.setIfInBounds_toArray, List.set_cons_zero, List.set_cons_succ]
      refine g_take (i := 2) (d := (some 4)) (v := ?_) rfl rfl (by kernel_rfl) (fun _ _ _ h => h) (by rfl) (fun w' hb' => ?_) ?_
      rotate_left
      · (try go_simp); (try with_reducible rfl)
      try simp only [Act.put, List.setIfInBounds_toArray, List.set_cons_zero, List.set_cons_succ]
      refine g_take (i := 3) (d := (some 5)) (v := ?_) rfl rfl (by kernel_rfl) (fun _ _ _ h => h) (by rfl) (fun w' hb' => ?_) ?_
      rotate_left
      · have z := (hb'.cell (p := ⟨p, 1, none⟩) hlp).trans c1; (try go_simp); (try with_reducible rfl)
      try simp only [Act.put, List.setIfInBounds_toArray, List.set_cons_zero, List.set_cons_succ]
      refine g_take (i := 4) (d := (some 6)) (v := ?_) rfl rfl (by kernel_rfl) (fun _ _ _ h => h) (by rfl) (fun w' hb' => ?_) ?_
      rotate_left
      · (try go_simp); (try with_reducible rfl)
      try simp only [Act.put, List.setIfInBounds_toArray, List.set_cons_zero, List.set_cons_succ]
      refine g_take (i := 5) (d := (some 7)) (v := ?_) rfl rfl (by kernel_rfl) (fun _ _ _ h => h) (by rfl) (fun w' hb' => ?_) ?_
      rotate_left
      · (try go_simp); (try with_reducible rfl)
      try simp only [Act.put, List.setIfInBounds_toArray, List.set_cons_zero, List.set_cons_succ]
      refine g_take (i := 6) (d := (some 8)) (v := ?_) rfl rfl (by kernel_rfl) (fun _ _ _ h => h) (by rfl) (fun w' hb' => ?_) ?_
      rotate_left
      · (try go_simp); (try with_reducible rfl)
      try simp only [Act.put, List.setIfInBounds_toArray, List.set_cons_zero, List.set_cons_succ]
      refine g_take (i := 7) (d := (some 9)) (v := ?_) rfl rfl (by kernel_rfl) (fun _ _ _ h => h) (by rfl) (fun w' hb' => ?_) ?_
      rotate_left
      · have z := (hb'.cell (p := ⟨p, 0, none⟩) hlp).trans c0; (try go_simp); (try with_reducible rfl)
      try simp only [Act.put, List.setIfInBounds_toArray, List.set_cons_zero, List.set_cons_succ]
      refine g_take (i := 8) (d := (some 10)) (v := ?_) rfl rfl (by kernel_rfl) (fun _ _ _ h => h) (by rfl) (fun w' hb' => ?_) ?_
      rotate_left
      · (try go_simp); (try with_reducible rfl)
      try simp only [Act.put, List.setIfInBounds_toArray, List.set_cons_zero, List.set_cons_succ]
      refine g_take (i := 9) (d := (some 11)) (v := ?_) rfl rfl (by kernel_rfl) (fun _ _ _ h => h) (by rfl) (fun w' hb' => ?_) ?_
      rotate_left
      · (try go_simp); (try with_reducible rfl)
      try simp only [Act.put, List.setIfInBounds_toArray, List.set_cons_zero, List.set_cons_succ]
      refine g_done (by kernel_rfl) ?_
      obtain ⟨W1, hW1⟩ : ∃ W, W = wr.drew := ⟨_, rfl⟩
      have q1 : Lx W1 p s m := by rw [hW1]; exact q0
      have HG1 := Lib.hid (show w.grownBy W1 (some p) by rw [hW1]; exact grown_drewB HG.out)
      rw [← hW1]
      clear c0 c1 cf hW1 q0 HG
      obtain ⟨c0, c1, cf⟩ := block_cells2 q1
      have hlp := lt_of_block q1
      go_wp2
      go_end0
      exact ⟨rfl, by rw [HU.out]; exact q1, HG1.out⟩
end Go.Proofs.YtkmhjodnddfkeaaDoor
