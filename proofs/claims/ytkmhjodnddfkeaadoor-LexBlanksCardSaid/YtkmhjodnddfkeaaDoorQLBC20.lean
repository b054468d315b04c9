/- Lex: signs; which reader. Written by wip/tools/gen16i.py. -/
import Derived.Test.YtkmhjodnddfkeaaDoorQLBC10
namespace Go.Proofs.YtkmhjodnddfkeaaDoor
open Go Go.RowKit
set_option linter.unusedVariables false
set_option linter.unusedSimpArgs false
set_option maxRecDepth 100000
def signF : Nat → List UInt8 → Nat ⊕ (Tk × Nat)
  | 0, _ => .inl 3
  | k + 1, l => if k + 1 ≤ l.length ∧ signB (l.take (k + 1)) then .inr (⟨4, l.take (k + 1), 0⟩, k + 1) else signF k l
set_option maxHeartbeats 2000000 in
theorem sign_any (p : Nat) (s : List UInt8) (a : Nat) (w : World) (h : Lx w p s a) (ha : a ≤ s.length) (hs : s.length ≤ 4096) :
    Calls Tryd.prog 26 #[.pointer (some ⟨p, 0, none⟩)] w (GivesR p s a w (signF 2 (s.drop a))) := by
  have TKE := Lib.hid (fun n w' (hn : a + n ≤ s.length) (h : Lx w' p s a) => take_any p s a n w' h hn hs)
  have hsz := str_size s
  obtain ⟨R, hR⟩ : ∃ R, R = signF 2 (s.drop a) := ⟨_, rfl⟩
  rw [← hR]
  obtain ⟨Z, hZ⟩ : ∃ Z, Z = GivesR p s a w R := ⟨_, rfl⟩
  rw [← hZ]
  have HZ := Lib.hid hZ
  have HR := Lib.hid hR
  have hpw := lt_of_block h
  have g0 : w.grownBy (w.alloc (.cells #[.int .i64 0, .int .i64 0, .string ⟨#[]⟩, .int .i64 0] 33)) (some p) := grown_none ((Below.refl w.heap.size w).alloc (Nat.le_refl _) _)
  have l0 : Lx (w.alloc (.cells #[.int .i64 0, .int .i64 0, .string ⟨#[]⟩, .int .i64 0] 33)) p s a := h.below ((Below.refl w.heap.size w).alloc (Nat.le_refl _) _)
  have r0 := heap_alloc_new w (.cells #[.int .i64 0, .int .i64 0, .string ⟨#[]⟩, .int .i64 0] 33)
  clear hR hZ h
  go_enter Tryd.func26, Tryd.ntmps26
  go_wp2_with fail
  go_loopw [4] (fun i wr => ∃ k : Nat, k ≤ 2 ∧ i = .int .i64 (k : Int) ∧ Hid (R = signF k (s.drop a)) ∧ Lx wr p s a ∧ wr.heap[w.heap.size]? = some (.cells #[.int .i64 0, .int .i64 0, .string ⟨#[]⟩, .int .i64 0] 33 (0, 0)) ∧ Hid (w.grownBy wr (some p))) (fun i _ => (intOf i).toNat)
  case atStart => exact ⟨2, Nat.le_refl _, rfl, HR, l0, r0, Lib.hid g0⟩
  case round =>
    clear l0 r0 g0
    obtain ⟨k, hk2, rfl, HRK, q0, m0, HG⟩ := hrel
    obtain ⟨c0, c1, cf⟩ := block_cells2 q0
    obtain ⟨d0, d1, d2, d3, df⟩ := block_cells4 m0
    have hlp := lt_of_block q0
    cases k with
    | zero =>
      have HRR := Lib.hid (show R = .inl 3 from HRK.out)
      go_wp2
      refine bodyPost_ret (results_cell_row_tmp rfl _ _ _ 33 #[.int .i64 0, .int .i64 0, .string ⟨#[]⟩, .int .i64 0] (0, 0) _ rfl (set4_new m0) Tryd.underlying33 rfl tok_cells) rfl ?_
      rw [HZ.out, HRR.out]
      exact ⟨rfl, set4_fin HG.out (Nat.le_refl _)⟩
    | succ k0 =>
      obtain ⟨k, hk⟩ : ∃ k, k = k0 + 1 := ⟨_, rfl⟩
      obtain ⟨m, hm⟩ : ∃ m, m = a + k := ⟨_, rfl⟩
      obtain ⟨t, ht⟩ : ∃ t, t = (s.drop a).take k := ⟨_, rfl⟩
      have HRS := Lib.hid (show R = if k ≤ (s.drop a).length ∧ signB t then .inr (⟨4, t, 0⟩, k) else signF k0 (s.drop a) by rw [HRK.out, ht, hk]; rfl)
      have ew : IntKind.i64.wrap ((a : Int) + (k : Int)) = (m : Int) := by rw [IntKind.wrap_i64, hm]; push_cast; omega
      have HTT := Lib.hid (show (s.drop a).take (m - a) = t by rw [ht, hm, Nat.add_sub_cancel_left])
      have ham : a ≤ m := by omega
      have hk1 : (0 : Int) < (k : Int) := by omega
      have hk3 : (k : Int) ≤ 2 := by omega
      have HTK := Lib.hid (fun w' hn (h : Lx w' p s a) => (show Calls Tryd.prog 28 #[.pointer (some ⟨p, 0, none⟩), .int .i64 (k : Int)] w' fun e w'' => e = .returned (.string (str t)) ∧ Lx w'' p s (a + k) ∧ w'.grownBy w'' (some p) by rw [ht]; exact TKE.out k w' hn h))
      have hkk : ((k0 + 1 : Nat) : Int) = (k : Int) := by rw [hk]
      have HIS0 := isSign_any t
      obtain ⟨B, hB⟩ : ∃ B, B = signB t := ⟨_, rfl⟩
      rw [← hB] at HIS0
      have HIS := Lib.hid HIS0
      have HB := Lib.hid hB
      have HM := Lib.hid hm
      have HK := Lib.hid hk
      rw [hkk]
      clear ht hm hk hkk HIS0 hB HRK
      by_cases hlen : m ≤ s.length
      · have h1 : ((m : Int) ≤ (s.length : Int)) := by omega
        have h2 : decide ((m : Int) ≤ (s.length : Int)) = true := decide_eq_true h1
        have HKL := Lib.hid (show k ≤ (s.drop a).length by rw [List.length_drop]; have := HM.out; omega)
        cases B with
        | true =>
          have HRR := Lib.hid (show R = .inr (⟨4, t, 0⟩, k) by rw [HRS.out]; exact if_pos ⟨HKL.out, HB.out.symm⟩)
          go_wp2
          refine g_start (by kernel_rfl) ?_
          refine g_take (i := 0) (d := (some 9)) (v := ?_) rfl rfl (by kernel_rfl) (fun _ _ _ h => h) (by rfl) (fun w' hb' => ?_) ?_
          rotate_left
          · (try go_simp); (try with_reducible rfl)
          try simp only [Act.put, List.setIfInBounds_toArray, List.set_cons_zero, List.set_cons_succ]
          refine g_take (i := 1) (d := (some 10)) (v := ?_) rfl rfl (by kernel_rfl) (fun _ _ _ h => h) (by rfl) (fun w' hb' => ?_) ?_
          rotate_left
          · (try go_simp); (try with_reducible rfl)
          try simp only [Act.put, List.setIfInBounds_toArray, List.set_cons_zero, List.set_cons_succ]
          refine g_take (i := 2) (d := (some 11)) (v := ?_) rfl rfl (by kernel_rfl) (fun _ _ _ h => h) (by rfl) (fun w' hb' => ?_) ?_
          rotate_left
          · (try go_simp); (try with_reducible rfl)
          try simp only [Act.put, List.setIfInBounds_toArray, List.set_cons_zero, List.set_cons_succ]
          refine g_take (i := 3) (d := (some 12)) (v := ?_) rfl rfl (by kernel_rfl) (fun _ _ _ h => h) (by rfl) (fun w' hb' => ?_) ?_
          rotate_left
          · have z := (hb'.cell (p := ⟨p, 1, none⟩) hlp).trans c1; (try go_simp); (try with_reducible rfl)
          try simp only [Act.put, List.setIfInBounds_toArray, List.set_cons_zero, List.set_cons_succ]
          refine g_take (i := 4) (d := (some 13)) (v := ?_) rfl rfl (by kernel_rfl) (fun _ _ _ h => h) (by rfl) (fun w' hb' => ?_) ?_
          rotate_left
          · (try go_simp); (try with_reducible rfl)
          try simp only [Act.put, List.setIfInBounds_toArray, List.set_cons_zero, List.set_cons_succ]
          refine g_take (i := 5) (d := (some 14)) (v := ?_) rfl rfl (by kernel_rfl) (fun _ _ _ h => h) (by rfl) (fun w' hb' => ?_) ?_
          rotate_left
          · (try go_simp); (try with_reducible rfl)
          try simp only [Act.put, List.setIfInBounds_toArray, List.set_cons_zero, List.set_cons_succ]
          refine g_take (i := 6) (d := (some 15)) (v := ?_) rfl rfl (by kernel_rfl) (fun _ _ _ h => h) (by rfl) (fun w' hb' => ?_) ?_
          rotate_left
          · (try go_simp); (try with_reducible rfl)
          try simp only [Act.put, List.setIfInBounds_toArray, List.set_cons_zero, List.set_cons_succ]
          refine g_take (i := 7) (d := (some 16)) (v := ?_) rfl rfl (by kernel_rfl) (fun _ _ _ h => h) (by rfl) (fun w' hb' => ?_) ?_
          rotate_left
          · (try go_simp); (try with_reducible rfl)
          try simp only [Act.put, List.setIfInBounds_toArray, List.set_cons_zero, List.set_cons_succ]
          refine g_take (i := 8) (d := (some 17)) (v := ?_) rfl rfl (by kernel_rfl) (fun _ _ _ h => h) (by rfl) (fun w' hb' => ?_) ?_
          rotate_left
          · (try go_simp); (try with_reducible rfl)
          try simp only [Act.put, List.setIfInBounds_toArray, List.set_cons_zero, List.set_cons_succ]
          refine g_take (i := 9) (d := (some 18)) (v := ?_) rfl rfl (by kernel_rfl) (fun _ _ _ h => h) (by rfl) (fun w' hb' => ?_) ?_
          rotate_left
          · have z := (hb'.cell (p := ⟨p, 0, none⟩) hlp).trans c0; (try go_simp); (try with_reducible rfl)
          try simp only [Act.put, List.setIfInBounds_toArray, List.set_cons_zero, List.set_cons_succ]
          refine g_take (i := 10) (d := (some 19)) (v := ?_) rfl rfl (by kernel_rfl) (fun _ _ _ h => h) (by rfl) (fun w' hb' => ?_) ?_
          rotate_left
          · (try go_simp); (try with_reducible rfl)
          try simp only [Act.put, List.setIfInBounds_toArray, List.set_cons_zero, List.set_cons_succ]
          refine g_take (i := 11) (d := (some 20)) (v := ?_) rfl rfl (by kernel_rfl) (fun _ _ _ h => h) (by rfl) (fun w' hb' => ?_) ?_
          rotate_left
          · (try go_simp); (try with_reducible rfl)
          try simp only [Act.put, List.setIfInBounds_toArray, List.set_cons_zero, List.set_cons_succ]
          refine g_take (i := 12) (d := (some 21)) (v := ?_) rfl rfl (by kernel_rfl) (fun _ _ _ h => h) (by rfl) (fun w' hb' => ?_) ?_
          rotate_left
          · (try go_simp); (try with_reducible rfl)
          try simp only [Act.put, List.setIfInBounds_toArray, List.set_cons_zero, List.set_cons_succ]
          refine g_take (i := 13) (d := (some 22)) (v := ?_) rfl rfl (by kernel_rfl) (fun _ _ _ h => h) (by rfl) (fun w' hb' => ?_) ?_
          rotate_left
          · (try go_simp); (try with_reducible rfl)
          try simp only [Act.put, List.setIfInBounds_toArray, List.set_cons_zero, List.set_cons_succ]
          refine g_take (i := 14) (d := (some 23)) (v := ?_) rfl rfl (by kernel_rfl) (fun _ _ _ h => h) (by rfl) (fun w' hb' => ?_) ?_
          rotate_left
          · (try go_simp); (try with_reducible rfl)
          try simp only [Act.put, List.setIfInBounds_toArray, List.set_cons_zero, List.set_cons_succ]
          refine g_take (i := 15) (d := (some 24)) (v := ?_) rfl rfl (by kernel_rfl) (fun _ _ _ h => h) (by rfl) (fun w' hb' => ?_) ?_
          rotate_left
          · (try go_simp); (try with_reducible rfl)
          try simp only [Act.put, List.setIfInBounds_toArray, List.set_cons_zero, List.set_cons_succ]
          refine g_take (i := 16) (d := (some 25)) (v := ?_) rfl rfl (by kernel_rfl) (fun _ _ _ h => h) (by rfl) (fun w' hb' => ?_) ?_
          rotate_left
          · have z := (hb'.cell (p := ⟨p, 0, none⟩) hlp).trans c0; (try go_simp); (try with_reducible rfl)
          try simp only [Act.put, List.setIfInBounds_toArray, List.set_cons_zero, List.set_cons_succ]
          refine g_take (i := 17) (d := (some 26)) (v := ?_) rfl rfl (by kernel_rfl) (fun _ _ _ h => h) (by rfl) (fun w' hb' => ?_) ?_
          rotate_left
          · (try go_simp); (try with_reducible rfl)
          try simp only [Act.put, List.setIfInBounds_toArray, List.set_cons_zero, List.set_cons_succ]
          refine g_take (i := 18) (d := (some 27)) (v := ?_) rfl rfl (by kernel_rfl) (fun _ _ _ h => h) (by rfl) (fun w' hb' => ?_) ?_
          rotate_left
          · (try go_simp); (try with_reducible rfl)
          try simp only [Act.put, List.setIfInBounds_toArray, List.set_cons_zero, List.set_cons_succ]
          refine g_take (i := 19) (d := (some 28)) (v := ?_) rfl rfl (by kernel_rfl) (fun _ _ _ h => h) (by rfl) (fun w' hb' => ?_) ?_
          rotate_left
          · (try go_simp); (try with_reducible rfl)
          try simp only [Act.put, List.setIfInBounds_toArray, List.set_cons_zero, List.set_cons_succ]
          refine g_take (i := 20) (d := (some 29)) (v := ?_) rfl rfl (by kernel_rfl) (fun _ _ _ h => h) (by rfl) (fun w' hb' => ?_) ?_
          rotate_left
          · have z := (hb'.cell (p := ⟨p, 1, none⟩) hlp).trans c1; (try go_simp); (try with_reducible rfl)
          try simp only [Act.put, List.setIfInBounds_toArray, List.set_cons_zero, List.set_cons_succ]
          refine g_take (i := 21) (d := (some 30)) (v := ?_) rfl rfl (by kernel_rfl) (fun _ _ _ h => h) (by rfl) (fun w' hb' => ?_) ?_
          rotate_left
          · (try go_simp); (try with_reducible rfl)
          try simp only [Act.put, List.setIfInBounds_toArray, List.set_cons_zero, List.set_cons_succ]
          refine g_take (i := 22) (d := (some 31)) (v := ?_) rfl rfl (by kernel_rfl) (fun _ _ _ h => h) (by rfl) (fun w' hb' => ?_) ?_
          rotate_left
          · (try go_simp); (try with_reducible rfl)
          try simp only [Act.put, List.setIfInBounds_toArray, List.set_cons_zero, List.set_cons_succ]
          refine g_take (i := 23) (d := (some 32)) (v := ?_) rfl rfl (by kernel_rfl) (fun _ _ _ h => h) (by rfl) (fun w' hb' => ?_) ?_
          rotate_left
          · (try go_simp); (try with_reducible rfl)
          try simp only [Act.put, List.setIfInBounds_toArray, List.set_cons_zero, List.set_cons_succ]
          refine g_take (i := 24) (d := (some 33)) (v := ?_) rfl rfl (by kernel_rfl) (fun _ _ _ h => h) (by rfl) (fun w' hb' => ?_) ?_
          rotate_left
          · have z := (hb'.cell (p := ⟨p, 1, none⟩) hlp).trans c1; (try go_simp); (try with_reducible rfl)
          try simp only [Act.put, List.setIfInBounds_toArray, List.set_cons_zero, List.set_cons_succ]
          refine g_take (i := 25) (d := (some 34)) (v := ?_) rfl rfl (by kernel_rfl) (fun _ _ _ h => h) (by rfl) (fun w' hb' => ?_) ?_
          rotate_left
          · (try go_simp); (try with_reducible rfl)
          try simp only [Act.put, List.setIfInBounds_toArray, List.set_cons_zero, List.set_cons_succ]
          refine g_take (i := 26) (d := (some 35)) (v := ?_) rfl rfl (by kernel_rfl) (fun _ _ _ h => h) (by rfl) (fun w' hb' => ?_) ?_
          rotate_left
          · (try go_simp); (try with_reducible rfl)
          try simp only [Act.put, List.setIfInBounds_toArray, List.set_cons_zero, List.set_cons_succ]
          refine g_take (i := 27) (d := (some 36)) (v := ?_) rfl rfl (by kernel_rfl) (fun _ _ _ h => h) (by rfl) (fun w' hb' => ?_) ?_
          rotate_left
          · refine str_slice2_op 9 (.tmp 25) (.tmp 29) (.tmp 35) ?_ s a m _ _ rfl rfl ?_ ?_ ?_ ham hlen t HTT.out ?_ <;> rfl; (try go_simp); (try with_reducible rfl)
          try simp only [Act.put, List.setIfInBounds_toArray, List.set_cons_zero, List.set_cons_succ]
          refine g_run (i := 28) rfl (by kernel_rfl) (by rfl) (fun K hK => ?_)
          go_simp; refine (PureW.at HIS.out _).mono ?_; rintro e v ⟨rfl, rfl⟩; refine hK _ _ ⟨Below.refl _ _, ?_⟩; clear hK K
          try simp only [Act.put, List.setIfInBounds_toArray, List.set_cons_zero, List.set_cons_succ]
          refine g_take (i := 29) (d := (some 38)) (v := ?_) rfl rfl (by kernel_rfl) (fun _ _ _ h => h) (by rfl) (fun w' hb' => ?_) ?_
          rotate_left
          · (try go_simp); (try with_reducible rfl)
          try simp only [Act.put, List.setIfInBounds_toArray, List.set_cons_zero, List.set_cons_succ]
          refine g_done (by kernel_rfl) ?_
          obtain ⟨W3, hW3⟩ : ∃ W, W = wr.drew := ⟨_, rfl⟩
          replace q0 : Lx W3 p s a := by rw [hW3]; exact q0
          replace HG : Hid (w.grownBy W3 (some p)) := Lib.hid (by rw [hW3]; exact grown_drewB HG.out)
          replace m0 : W3.heap[w.heap.size]? = some (.cells #[.int .i64 0, .int .i64 0, .string ⟨#[]⟩, .int .i64 0] 33 (0, 0)) := by rw [hW3]; exact m0
          rw [← hW3]
          clear c0 c1 cf hW3
          obtain ⟨d0, d1, d2, d3, df⟩ := block_cells4 m0
          have hn := show a + k ≤ s.length by have := HM.out; omega
          go_wp2_with ((with_reducible refine (HTK.out _ hn q0).mono ?_); rintro e w5 ⟨rfl, l5, g5⟩; (replace m0 := (g5.block _ (lt_of_block m0) (by simp; omega)).trans m0); (replace HG : Hid (w.grownBy w5 (some p)) := Lib.hid (grown_transB HG.out g5)); (obtain ⟨d0, d1, d2, d3, df⟩ := block_cells4 m0))
          refine bodyPost_ret (results_cell_row_tmp rfl _ _ _ 33 #[.int .i64 4, .int .i64 0, .string (str t), .int .i64 0] (0, 0) _ rfl (set4_new m0) Tryd.underlying33 rfl tok_cells) rfl ?_
          rw [HZ.out, HRR.out]
          exact ⟨⟨rfl, (set4_old (by omega)).trans l5⟩, set4_fin HG.out (Nat.le_refl _)⟩
        | false =>
          have HRN := Lib.hid (show R = signF k0 (s.drop a) by rw [HRS.out]; exact if_neg (by rw [← HB.out]; simp))
          go_wp2
          refine g_start (by kernel_rfl) ?_
          refine g_take (i := 0) (d := (some 9)) (v := ?_) rfl rfl (by kernel_rfl) (fun _ _ _ h => h) (by rfl) (fun w' hb' => ?_) ?_
          rotate_left
          · (try go_simp); (try with_reducible rfl)
          try simp only [Act.put, List.setIfInBounds_toArray, List.set_cons_zero, List.set_cons_succ]
          refine g_take (i := 1) (d := (some 10)) (v := ?_) rfl rfl (by kernel_rfl) (fun _ _ _ h => h) (by rfl) (fun w' hb' => ?_) ?_
          rotate_left
          · (try go_simp); (try with_reducible rfl)
          try simp only [Act.put, List.setIfInBounds_toArray, List.set_cons_zero, List.set_cons_succ]
          refine g_take (i := 2) (d := (some 11)) (v := ?_) rfl rfl (by kernel_rfl) (fun _ _ _ h => h) (by rfl) (fun w' hb' => ?_) ?_
          rotate_left
          · (try go_simp); (try with_reducible rfl)
          try simp only [Act.put, List.setIfInBounds_toArray, List.set_cons_zero, List.set_cons_succ]
          refine g_take (i := 3) (d := (some 12)) (v := ?_) rfl rfl (by kernel_rfl) (fun _ _ _ h => h) (by rfl) (fun w' hb' => ?_) ?_
          rotate_left
          · have z := (hb'.cell (p := ⟨p, 1, none⟩) hlp).trans c1; (try go_simp); (try with_reducible rfl)
          try simp only [Act.put, List.setIfInBounds_toArray, List.set_cons_zero, List.set_cons_succ]
          refine g_take (i := 4) (d := (some 13)) (v := ?_) rfl rfl (by kernel_rfl) (fun _ _ _ h => h) (by rfl) (fun w' hb' => ?_) ?_
          rotate_left
          · (try go_simp); (try with_reducible rfl)
          try simp only [Act.put, List.setIfInBounds_toArray, List.set_cons_zero, List.set_cons_succ]
          refine g_take (i := 5) (d := (some 14)) (v := ?_) rfl rfl (by kernel_rfl) (fun _ _ _ h => h) (by rfl) (fun w' hb' => ?_) ?_
          rotate_left
          · (try go_simp); (try with_reducible rfl)
          try simp only [Act.put, List.setIfInBounds_toArray, List.set_cons_zero, List.set_cons_succ]
          refine g_take (i := 6) (d := (some 15)) (v := ?_) rfl rfl (by kernel_rfl) (fun _ _ _ h => h) (by rfl) (fun w' hb' => ?_) ?_
          rotate_left
          · (try go_simp); (try with_reducible rfl)
          try simp only [Act.put, List.setIfInBounds_toArray, List.set_cons_zero, List.set_cons_succ]
          refine g_take (i := 7) (d := (some 16)) (v := ?_) rfl rfl (by kernel_rfl) (fun _ _ _ h => h) (by rfl) (fun w' hb' => ?_) ?_
          rotate_left
          · (try go_simp); (try with_reducible rfl)
          try simp only [Act.put, List.setIfInBounds_toArray, List.set_cons_zero, List.set_cons_succ]
          refine g_take (i := 8) (d := (some 17)) (v := ?_) rfl rfl (by kernel_rfl) (fun _ _ _ h => h) (by rfl) (fun w' hb' => ?_) ?_
          rotate_left
          · (try go_simp); (try with_reducible rfl)
          try simp only [Act.put, List.setIfInBounds_toArray, List.set_cons_zero, List.set_cons_succ]
          refine g_take (i := 9) (d := (some 18)) (v := ?_) rfl rfl (by kernel_rfl) (fun _ _ _ h => h) (by rfl) (fun w' hb' => ?_) ?_
          rotate_left
          · have z := (hb'.cell (p := ⟨p, 0, none⟩) hlp).trans c0; (try go_simp); (try with_reducible rfl)
          try simp only [Act.put, List.setIfInBounds_toArray, List.set_cons_zero, List.set_cons_succ]
          refine g_take (i := 10) (d := (some 19)) (v := ?_) rfl rfl (by kernel_rfl) (fun _ _ _ h => h) (by rfl) (fun w' hb' => ?_) ?_
          rotate_left
          · (try go_simp); (try with_reducible rfl)
          try simp only [Act.put, List.setIfInBounds_toArray, List.set_cons_zero, List.set_cons_succ]
          refine g_take (i := 11) (d := (some 20)) (v := ?_) rfl rfl (by kernel_rfl) (fun _ _ _ h => h) (by rfl) (fun w' hb' => ?_) ?_
          rotate_left
          · (try go_simp); (try with_reducible rfl)
          try simp only [Act.put, List.setIfInBounds_toArray, List.set_cons_zero, List.set_cons_succ]
          refine g_take (i := 12) (d := (some 21)) (v := ?_) rfl rfl (by kernel_rfl) (fun _ _ _ h => h) (by rfl) (fun w' hb' => ?_) ?_
          rotate_left
          · (try go_simp); (try with_reducible rfl)
          try simp only [Act.put, List.setIfInBounds_toArray, List.set_cons_zero, List.set_cons_succ]
          refine g_take (i := 13) (d := (some 22)) (v := ?_) rfl rfl (by kernel_rfl) (fun _ _ _ h => h) (by rfl) (fun w' hb' => ?_) ?_
          rotate_left
          · (try go_simp); (try with_reducible rfl)
          try simp only [Act.put, List.setIfInBounds_toArray, List.set_cons_zero, List.set_cons_succ]
          refine g_take (i := 14) (d := (some 23)) (v := ?_) rfl rfl (by kernel_rfl) (fun _ _ _ h => h) (by rfl) (fun w' hb' => ?_) ?_
          rotate_left
          · (try go_simp); (try with_reducible rfl)
          try simp only [Act.put, List.setIfInBounds_toArray, List.set_cons_zero, List.set_cons_succ]
          refine g_take (i := 15) (d := (some 24)) (v := ?_) rfl rfl (by kernel_rfl) (fun _ _ _ h => h) (by rfl) (fun w' hb' => ?_) ?_
          rotate_left
          · (try go_simp); (try with_reducible rfl)
          try simp only [Act.put, List.setIfInBounds_toArray, List.set_cons_zero, List.set_cons_succ]
          refine g_take (i := 16) (d := (some 25)) (v := ?_) rfl rfl (by kernel_rfl) (fun _ _ _ h => h) (by rfl) (fun w' hb' => ?_) ?_
          rotate_left
          · have z := (hb'.cell (p := ⟨p, 0, none⟩) hlp).trans c0; (try go_simp); (try with_reducible rfl)
          try simp only [Act.put, List.setIfInBounds_toArray, List.set_cons_zero, List.set_cons_succ]
          refine g_take (i := 17) (d := (some 26)) (v := ?_) rfl rfl (by kernel_rfl) (fun _ _ _ h => h) (by rfl) (fun w' hb' => ?_) ?_
          rotate_left
          · (try go_simp); (try with_reducible rfl)
          try simp only [Act.put, List.setIfInBounds_toArray, List.set_cons_zero, List.set_cons_succ]
          refine g_take (i := 18) (d := (some 27)) (v := ?_) rfl rfl (by kernel_rfl) (fun _ _ _ h => h) (by rfl) (fun w' hb' => ?_) ?_
          rotate_left
          · (try go_simp); (try with_reducible rfl)
          try simp only [Act.put, List.setIfInBounds_toArray, List.set_cons_zero, List.set_cons_succ]
          refine g_take (i := 19) (d := (some 28)) (v := ?_) rfl rfl (by kernel_rfl) (fun _ _ _ h => h) (by rfl) (fun w' hb' => ?_) ?_
          rotate_left
          · (try go_simp); (try with_reducible rfl)
          try simp only [Act.put, List.setIfInBounds_toArray, List.set_cons_zero, List.set_cons_succ]
          refine g_take (i := 20) (d := (some 29)) (v := ?_) rfl rfl (by kernel_rfl) (fun _ _ _ h => h) (by rfl) (fun w' hb' => ?_) ?_
          rotate_left
          · have z := (hb'.cell (p := ⟨p, 1, none⟩) hlp).trans c1; (try go_simp); (try with_reducible rfl)
          try simp only [Act.put, List.setIfInBounds_toArray, List.set_cons_zero, List.set_cons_succ]
          refine g_take (i := 21) (d := (some 30)) (v := ?_) rfl rfl (by kernel_rfl) (fun _ _ _ h => h) (by rfl) (fun w' hb' => ?_) ?_
          rotate_left
          · (try go_simp); (try with_reducible rfl)
          try simp only [Act.put, List.setIfInBounds_toArray, List.set_cons_zero, List.set_cons_succ]
          refine g_take (i := 22) (d := (some 31)) (v := ?_) rfl rfl (by kernel_rfl) (fun _ _ _ h => h) (by rfl) (fun w' hb' => ?_) ?_
          rotate_left
          · (try go_simp); (try with_reducible rfl)
          try simp only [Act.put, List.setIfInBounds_toArray, List.set_cons_zero, List.set_cons_succ]
          refine g_take (i := 23) (d := (some 32)) (v := ?_) rfl rfl (by kernel_rfl) (fun _ _ _ h => h) (by rfl) (fun w' hb' => ?_) ?_
          rotate_left
          · (try go_simp); (try with_reducible rfl)
          try simp only [Act.put, List.setIfInBounds_toArray, List.set_cons_zero, List.set_cons_succ]
          refine g_take (i := 24) (d := (some 33)) (v := ?_) rfl rfl (by kernel_rfl) (fun _ _ _ h => h) (by rfl) (fun w' hb' => ?_) ?_
          rotate_left
          · have z := (hb'.cell (p := ⟨p, 1, none⟩) hlp).trans c1; (try go_simp); (try with_reducible rfl)
          try simp only [Act.put, List.setIfInBounds_toArray, List.set_cons_zero, List.set_cons_succ]
          refine g_take (i := 25) (d := (some 34)) (v := ?_) rfl rfl (by kernel_rfl) (fun _ _ _ h => h) (by rfl) (fun w' hb' => ?_) ?_
          rotate_left
          · (try go_simp); (try with_reducible rfl)
          try simp only [Act.put, List.setIfInBounds_toArray, List.set_cons_zero, List.set_cons_succ]
          refine g_take (i := 26) (d := (some 35)) (v := ?_) rfl rfl (by kernel_rfl) (fun _ _ _ h => h) (by rfl) (fun w' hb' => ?_) ?_
          rotate_left
          · (try go_simp); (try with_reducible rfl)
          try simp only [Act.put, List.setIfInBounds_toArray, List.set_cons_zero, List.set_cons_succ]
          refine g_take (i := 27) (d := (some 36)) (v := ?_) rfl rfl (by kernel_rfl) (fun _ _ _ h => h) (by rfl) (fun w' hb' => ?_) ?_
          rotate_left
          · refine str_slice2_op 9 (.tmp 25) (.tmp 29) (.tmp 35) ?_ s a m _ _ rfl rfl ?_ ?_ ?_ ham hlen t HTT.out ?_ <;> rfl; (try go_simp); (try with_reducible rfl)
          try simp only [Act.put, List.setIfInBounds_toArray, List.set_cons_zero, List.set_cons_succ]
          refine g_run (i := 28) rfl (by kernel_rfl) (by rfl) (fun K hK => ?_)
          go_simp; refine (PureW.at HIS.out _).mono ?_; rintro e v ⟨rfl, rfl⟩; refine hK _ _ ⟨Below.refl _ _, ?_⟩; clear hK K
          try simp only [Act.put, List.setIfInBounds_toArray, List.set_cons_zero, List.set_cons_succ]
          refine g_take (i := 29) (d := (some 38)) (v := ?_) rfl rfl (by kernel_rfl) (fun _ _ _ h => h) (by rfl) (fun w' hb' => ?_) ?_
          rotate_left
          · (try go_simp); (try with_reducible rfl)
          try simp only [Act.put, List.setIfInBounds_toArray, List.set_cons_zero, List.set_cons_succ]
          refine g_done (by kernel_rfl) ?_
          obtain ⟨W3, hW3⟩ : ∃ W, W = wr.drew := ⟨_, rfl⟩
          replace q0 : Lx W3 p s a := by rw [hW3]; exact q0
          replace HG : Hid (w.grownBy W3 (some p)) := Lib.hid (by rw [hW3]; exact grown_drewB HG.out)
          replace m0 : W3.heap[w.heap.size]? = some (.cells #[.int .i64 0, .int .i64 0, .string ⟨#[]⟩, .int .i64 0] 33 (0, 0)) := by rw [hW3]; exact m0
          rw [← hW3]
          clear c0 c1 cf hW3
          obtain ⟨d0, d1, d2, d3, df⟩ := block_cells4 m0
          go_wp2_with fail
          exact ⟨⟨k0, by have := HK.out; omega, by have := HK.out; congr 1; omega, HRN, q0, m0, HG⟩, by have := HK.out; simp [intOf]; omega⟩
      · have h1 : ¬ ((m : Int) ≤ (s.length : Int)) := by omega
        have h2 : decide ((m : Int) ≤ (s.length : Int)) = false := decide_eq_false h1
        have HRN := Lib.hid (show R = signF k0 (s.drop a) by rw [HRS.out]; exact if_neg (by rintro ⟨e, _⟩; rw [List.length_drop] at e; have := HM.out; omega))
        go_wp2
        refine g_start (by kernel_rfl) ?_
        refine g_take (i := 0) (d := (some 9)) (v := ?_) rfl rfl (by kernel_rfl) (fun _ _ _ h => h) (by rfl) (fun w' hb' => ?_) ?_
        rotate_left
        · (try go_simp); (try with_reducible rfl)
        try simp only [Act.put, List.setIfInBounds_toArray, List.set_cons_zero, List.set_cons_succ]
        refine g_take (i := 1) (d := (some 10)) (v := ?_) rfl rfl (by kernel_rfl) (fun _ _ _ h => h) (by rfl) (fun w' hb' => ?_) ?_
        rotate_left
        · (try go_simp); (try with_reducible rfl)
        try simp only [Act.put, List.setIfInBounds_toArray, List.set_cons_zero, List.set_cons_succ]
        refine g_take (i := 2) (d := (some 11)) (v := ?_) rfl rfl (by kernel_rfl) (fun _ _ _ h => h) (by rfl) (fun w' hb' => ?_) ?_
        rotate_left
        · (try go_simp); (try with_reducible rfl)
        try simp only [Act.put, List.setIfInBounds_toArray, List.set_cons_zero, List.set_cons_succ]
        refine g_take (i := 3) (d := (some 12)) (v := ?_) rfl rfl (by kernel_rfl) (fun _ _ _ h => h) (by rfl) (fun w' hb' => ?_) ?_
        rotate_left
        · have z := (hb'.cell (p := ⟨p, 1, none⟩) hlp).trans c1; (try go_simp); (try with_reducible rfl)
        try simp only [Act.put, List.setIfInBounds_toArray, List.set_cons_zero, List.set_cons_succ]
        refine g_take (i := 4) (d := (some 13)) (v := ?_) rfl rfl (by kernel_rfl) (fun _ _ _ h => h) (by rfl) (fun w' hb' => ?_) ?_
        rotate_left
        · (try go_simp); (try with_reducible rfl)
        try simp only [Act.put, List.setIfInBounds_toArray, List.set_cons_zero, List.set_cons_succ]
        refine g_take (i := 5) (d := (some 14)) (v := ?_) rfl rfl (by kernel_rfl) (fun _ _ _ h => h) (by rfl) (fun w' hb' => ?_) ?_
        rotate_left
        · (try go_simp); (try with_reducible rfl)
        try simp only [Act.put, List.setIfInBounds_toArray, List.set_cons_zero, List.set_cons_succ]
        refine g_take (i := 6) (d := (some 15)) (v := ?_) rfl rfl (by kernel_rfl) (fun _ _ _ h => h) (by rfl) (fun w' hb' => ?_) ?_
        rotate_left
        · (try go_simp); (try with_reducible rfl)
        try simp only [Act.put, List.setIfInBounds_toArray, List.set_cons_zero, List.set_cons_succ]
        refine g_take (i := 7) (d := (some 16)) (v := ?_) rfl rfl (by kernel_rfl) (fun _ _ _ h => h) (by rfl) (fun w' hb' => ?_) ?_
        rotate_left
        · (try go_simp); (try with_reducible rfl)
        try simp only [Act.put, List.setIfInBounds_toArray, List.set_cons_zero, List.set_cons_succ]
        refine g_take (i := 8) (d := (some 17)) (v := ?_) rfl rfl (by kernel_rfl) (fun _ _ _ h => h) (by rfl) (fun w' hb' => ?_) ?_
        rotate_left
        · (try go_simp); (try with_reducible rfl)
        try simp only [Act.put, List.setIfInBounds_toArray, List.set_cons_zero, List.set_cons_succ]
        refine g_take (i := 9) (d := (some 18)) (v := ?_) rfl rfl (by kernel_rfl) (fun _ _ _ h => h) (by rfl) (fun w' hb' => ?_) ?_
        rotate_left
        · have z := (hb'.cell (p := ⟨p, 0, none⟩) hlp).trans c0; (try go_simp); (try with_reducible rfl)
        try simp only [Act.put, List.setIfInBounds_toArray, List.set_cons_zero, List.set_cons_succ]
        refine g_take (i := 10) (d := (some 19)) (v := ?_) rfl rfl (by kernel_rfl) (fun _ _ _ h => h) (by rfl) (fun w' hb' => ?_) ?_
        rotate_left
        · (try go_simp); (try with_reducible rfl)
        try simp only [Act.put, List.setIfInBounds_toArray, List.set_cons_zero, List.set_cons_succ]
        refine g_take (i := 11) (d := (some 20)) (v := ?_) rfl rfl (by kernel_rfl) (fun _ _ _ h => h) (by rfl) (fun w' hb' => ?_) ?_
        rotate_left
        · (try go_simp); (try with_reducible rfl)
        try simp only [Act.put, List.setIfInBounds_toArray, List.set_cons_zero, List.set_cons_succ]
        refine g_take (i := 12) (d := (some 21)) (v := ?_) rfl rfl (by kernel_rfl) (fun _ _ _ h => h) (by rfl) (fun w' hb' => ?_) ?_
        rotate_left
        · (try go_simp); (try with_reducible rfl)
        try simp only [Act.put, List.setIfInBounds_toArray, List.set_cons_zero, List.set_cons_succ]
        refine g_skip (i := 13) (d := (some 22)) rfl rfl (by kernel_rfl) (fun _ _ _ h => h) (by rfl) ?_
        try simp only [Act.put, List.setIfInBounds_toArray, List.set_cons_zero, List.set_cons_succ]
        refine g_skip (i := 14) (d := (some 23)) rfl rfl (by kernel_rfl) (fun _ _ _ h => h) (by rfl) ?_
        try simp only [Act.put, List.setIfInBounds_toArray, List.set_cons_zero, List.set_cons_succ]
        refine g_skip (i := 15) (d := (some 24)) rfl rfl (by kernel_rfl) (fun _ _ _ h => h) (by rfl) ?_
        try simp only [Act.put, List.setIfInBounds_toArray, List.set_cons_zero, List.set_cons_succ]
        refine g_skip (i := 16) (d := (some 25)) rfl rfl (by kernel_rfl) (fun _ _ _ h => h) (by rfl) ?_
        try simp only [Act.put, List.setIfInBounds_toArray, List.set_cons_zero, List.set_cons_succ]
        refine g_skip (i := 17) (d := (some 26)) rfl rfl (by kernel_rfl) (fun _ _ _ h => h) (by rfl) ?_
        try simp only [Act.put, List.setIfInBounds_toArray, List.set_cons_zero, List.set_cons_succ]
        refine g_skip (i := 18) (d := (some 27)) rfl rfl (by kernel_rfl) (fun _ _ _ h => h) (by rfl) ?_
        try simp only [Act.put, List.setIfInBounds_toArray, List.set_cons_zero, List.set_cons_succ]
        refine g_skip (i := 19) (d := (some 28)) rfl rfl (by kernel_rfl) (fun _ _ _ h => h) (by rfl) ?_
        try simp only [Act.put, List.setIfInBounds_toArray, List.set_cons_zero, List.set_cons_succ]
        refine g_skip (i := 20) (d := (some 29)) rfl rfl (by kernel_rfl) (fun _ _ _ h => h) (by rfl) ?_
        try simp only [Act.put, List.setIfInBounds_toArray, List.set_cons_zero, List.set_cons_succ]
        refine g_skip (i := 21) (d := (some 30)) rfl rfl (by kernel_rfl) (fun _ _ _ h => h) (by rfl) ?_
        try simp only [Act.put, List.setIfInBounds_toArray, List.set_cons_zero, List.set_cons_succ]
        refine g_skip (i := 22) (d := (some 31)) rfl rfl (by kernel_rfl) (fun _ _ _ h => h) (by rfl) ?_
        try simp only [Act.put, List.setIfInBounds_toArray, List.set_cons_zero, List.set_cons_succ]
        refine g_skip (i := 23) (d := (some 32)) rfl rfl (by kernel_rfl) (fun _ _ _ h => h) (by rfl) ?_
        try simp only [Act.put, List.setIfInBounds_toArray, List.set_cons_zero, List.set_cons_succ]
        refine g_skip (i := 24) (d := (some 33)) rfl rfl (by kernel_rfl) (fun _ _ _ h => h) (by rfl) ?_
        try simp only [Act.put, List.setIfInBounds_toArray, List.set_cons_zero, List.set_cons_succ]
        refine g_skip (i := 25) (d := (some 34)) rfl rfl (by kernel_rfl) (fun _ _ _ h => h) (by rfl) ?_
        try simp only [Act.put, List.setIfInBounds_toArray, List.set_cons_zero, List.set_cons_succ]
        refine g_skip (i := 26) (d := (some 35)) rfl rfl (by kernel_rfl) (fun _ _ _ h => h) (by rfl) ?_
        try simp only [Act.put, List.setIfInBounds_toArray, List.set_cons_zero, List.set_cons_succ]
        refine g_skip (i := 27) (d := (some 36)) rfl rfl (by kernel_rfl) (fun _ _ _ h => h) (by rfl) ?_
        try simp only [Act.put, List.setIfInBounds_toArray, List.set_cons_zero, List.set_cons_succ]
        refine g_skip (i := 28) (d := (some 37)) rfl rfl (by kernel_rfl) (fun _ _ _ h => h) (by rfl) ?_
        try simp only [Act.put, List.setIfInBounds_toArray, List.set_cons_zero, List.set_cons_succ]
        refine g_take (i := 29) (d := (some 38)) (v := ?_) rfl rfl (by kernel_rfl) (fun _ _ _ h => h) (by rfl) (fun w' hb' => ?_) ?_
        rotate_left
        · (try go_simp); (try with_reducible rfl)
        try simp only [Act.put, List.setIfInBounds_toArray, List.set_cons_zero, List.set_cons_succ]
        refine g_done (by kernel_rfl) ?_
        obtain ⟨W3, hW3⟩ : ∃ W, W = wr.drew := ⟨_, rfl⟩
        replace q0 : Lx W3 p s a := by rw [hW3]; exact q0
        replace HG : Hid (w.grownBy W3 (some p)) := Lib.hid (by rw [hW3]; exact grown_drewB HG.out)
        replace m0 : W3.heap[w.heap.size]? = some (.cells #[.int .i64 0, .int .i64 0, .string ⟨#[]⟩, .int .i64 0] 33 (0, 0)) := by rw [hW3]; exact m0
        rw [← hW3]
        clear c0 c1 cf hW3
        obtain ⟨d0, d1, d2, d3, df⟩ := block_cells4 m0
        go_wp2_with fail
        exact ⟨⟨k0, by have := HK.out; omega, by have := HK.out; congr 1; omega, HRN, q0, m0, HG⟩, by have := HK.out; simp [intOf]; omega⟩
end Go.Proofs.YtkmhjodnddfkeaaDoor
