/- The law TermLists. Written by wip/tools/gen2d.py. -/
import Derived.Test.YtblhgliegoickaaDoorT2C
import Derived.Test.YtblhgliegoickaaDoorReg
namespace Go.Proofs.YtblhgliegoickaaDoor
open Go Go.RowKit Go.Maps
set_option linter.unusedVariables false
set_option linter.unusedSimpArgs false
theorem int_eqb {a b : Int} (h : a = b) : (a == b) = true := by simp [h]
theorem int_neb {a b : Int} (h : a ≠ b) : (a == b) = false := by simp [h]
theorem take_eq {A B : List Int} (j : Nat) (ha : j < A.length) (hb : j < B.length) : A.take (j + 1) = B.take (j + 1) ↔ A.take j = B.take j ∧ A[j] = B[j] := by
  rw [List.take_succ_eq_append_getElem ha, List.take_succ_eq_append_getElem hb]
  constructor
  · intro h
    have := List.append_inj h (by simp; omega)
    exact ⟨this.1, by simpa using this.2⟩
  · rintro ⟨h1, h2⟩; rw [h1, h2]
set_option maxRecDepth 100000 in
set_option maxHeartbeats 1000000 in
theorem law_lists (v1 : Value) (A0 : List Int) (v2 : Value) (B0 : List Int) (w : World) (h1 : RdV w v1 (A0.map iv)) (f1 : ∀ x ∈ A0, fitsI x) (h2 : RdV w v2 (B0.map iv)) (f2 : ∀ x ∈ B0, fitsI x) (ht : Tab w) :
    Calls Tryd.prog 5 #[v1, v2] w fun e w' => e = .returned (.bool true) ∧ Below w.heap.size w w' := by
  obtain ⟨a1, c1, rfl, hc1, _⟩ := rdv_open h1
  obtain ⟨a2, c2, rfl, hc2, _⟩ := rdv_open h2
  have FA := few_any A0.length a1 c1 hc1 w
  have FB := few_any B0.length a2 c2 hc2 w
  have ra := rdv_cut h1 60
  have rb := rdv_cut h2 60
  have ea : min A0.length 60 = (A0.take 60).length := by simp [Nat.min_comm]
  have eb : min B0.length 60 = (B0.take 60).length := by simp [Nat.min_comm]
  have la : (A0.take 60).length ≤ 60 := by simp; omega
  have lb : (B0.take 60).length ≤ 60 := by simp; omega
  have fa : ∀ x ∈ A0.take 60, fitsI x := fun x hx => f1 x (List.mem_of_mem_take hx)
  have fb : ∀ x ∈ B0.take 60, fitsI x := fun x hx => f2 x (List.mem_of_mem_take hx)
  rw [ea] at FA ra
  rw [eb] at FB rb
  obtain ⟨A, hA⟩ : ∃ A, A = A0.take 60 := ⟨_, rfl⟩
  obtain ⟨B, hB⟩ : ∃ B, B = B0.take 60 := ⟨_, rfl⟩
  rw [← hA] at FA ra la fa
  rw [← hB] at FB rb lb fb
  have HT := Lib.hid ht
  have RA := Lib.hid ra
  have RB := Lib.hid rb
  have FFA := Lib.hid fa
  have FFB := Lib.hid fb
  clear h1 h2 f1 f2 ea eb hA hB ht ra rb fa fb
  go_enter Tryd.func5, Tryd.ntmps5
  go_wp2_with fail
  refine FA.mono ?_
  rintro e wx ⟨rfl, rfl⟩
  go_wp2_with fail
  refine FB.mono ?_
  rintro e wx ⟨rfl, rfl⟩
  go_wp2_with fail
  refine (new_any w).mono ?_
  rintro e w0 ⟨rfl, B0', tb0⟩
  obtain ⟨da, hda⟩ : ∃ da, da = digN A := ⟨_, rfl⟩
  obtain ⟨db, hdb⟩ : ∃ db, db = digN B := ⟨_, rfl⟩
  have S0 := list_any _ (w.heap.size + 1) w.heap.size _ [] (.slice a1 A.length c1) A (by omega) FFA.out (by decide) w0 tb0 B0'.size (RA.out.below B0' (Nat.le_refl _)) (HT.out.below B0')
  rw [← hda] at S0
  obtain ⟨L1, hL1⟩ : ∃ L1, L1 = ofL [] da := ⟨_, rfl⟩
  rw [← hL1] at S0
  obtain ⟨X, hX⟩ : ∃ X : Int, X = (numN L1 da : Int) := ⟨_, rfl⟩
  rw [← hX] at S0
  have O0 := tb0.own_ge
  have hb0 : w.heap.size ≤ w0.heap.size := B0'.size
  clear FA FB
  go_wp2_with fail
  refine S0.mono ?_
  rintro e w1 ⟨rfl, v1, tb1, tr, _⟩
  have B1 := below_trn B0' tr O0
  have hb1 := Nat.le_trans hb0 tr.size
  have hl1 : L1.length ≤ 1 := by rw [hL1]; have := ofL_len [] da; simpa using this
  have S1 := list_any _ (w.heap.size + 1) w.heap.size _ L1 (.slice a2 B.length c2) B (by omega) FFB.out (by omega) w1 tb1 hb1 (RB.out.below B1 (Nat.le_refl _)) (HT.out.below B1)
  rw [← hdb] at S1
  obtain ⟨L2, hL2⟩ : ∃ L2, L2 = ofL L1 db := ⟨_, rfl⟩
  rw [← hL2] at S1
  have O1 := tb1.own_ge
  have hxy : ((numN L1 da : Int) == (numN L2 db : Int)) = decide (A = B) := by
    have m1 : da ∈ L1 := by rw [hL1]; exact ofL_mem _ _
    have m2 : db ∈ L2 := by rw [hL2]; exact ofL_mem _ _
    have m3 : da ∈ L2 := by rw [hL2]; exact ofL_sub m1
    have nd : L2.Nodup := by rw [hL2]; exact ofL_nodup tb1.nd
    have en : numN L2 da = numN L1 da := by rw [hL2]; exact num_ofL m1
    rw [← en, Bool.eq_iff_iff, beq_iff_eq, decide_eq_true_eq]
    constructor
    · intro h
      have := num_inj nd m3 m2 (by omega)
      rw [hda, hdb] at this
      exact digN_inj this
    · intro h; rw [hda, hdb, h]
  obtain ⟨Y, hY⟩ : ∃ Y : Int, Y = (numN L2 db : Int) := ⟨_, rfl⟩
  rw [← hX, ← hY] at hxy
  rw [← hY] at S1
  have HXY := Lib.hid hxy
  clear S0 tr O0 tb0 hda hdb hL1 hL2 hxy hX hY
  go_wp2_with fail
  refine S1.mono ?_
  rintro e w2 ⟨rfl, v2, tb2, tr, _⟩
  have B2 := below_trn B1 tr O1
  clear S1 tr O1 tb1 tb2
  have ra := rdv_open (RA.out.below B2 (Nat.le_refl _))
  obtain ⟨_, _, e1, _, _, HA⟩ := ra
  cases e1
  have rb := rdv_open (RB.out.below B2 (Nat.le_refl _))
  obtain ⟨_, _, e2, _, _, HB⟩ := rb
  cases e2
  by_cases hl : A.length = B.length
  · have hl2 := int_eqb (show (A.length : Int) = B.length by omega)
    have HLL := Lib.hid hl
    have hle : A.length ≤ B.length := by omega
    clear hl
    go_wp2_with fail
    go_loopw [10, 11] (fun s i wr => ∃ (j : Nat) (sb : Bool), j ≤ A.length ∧ s = .bool sb ∧ i = .int .i64 (j : Int) ∧ Below w2.heap.size w2 wr ∧ Hid (sb = decide (A.take j = B.take j))) (fun _ i _ => 200 - (intOf i).toNat)
    case atStart => exact ⟨0, true, Nat.zero_le _, rfl, rfl, Below.refl _ _, Lib.hid (by simp)⟩
    case round =>
      obtain ⟨j, sb, hj, rfl, rfl, bel, HS⟩ := hrel
      have B3 := chain B2 bel
      cases sb with
      | false =>
        have HE2 := Lib.hid (show (X == Y) = false from by rw [HXY.out]; rw [decide_eq_false_iff_not]; intro h; have := of_decide_eq_false HS.out.symm; exact this (by rw [h]))
        have hxy := HE2.out
        go_wp2_with (go_at_call 17; refine (awake_any _ (HT.out.below B3)).mono ?_; rintro e w9 ⟨rfl, g9⟩)
        all_goals (go_ret; exact ⟨rfl, chain B3 g9⟩)
      | true =>
        by_cases hjx : j < A.length
        · obtain ⟨ba, oa, rfl, hba, hca⟩ := HA.out (by omega)
          obtain ⟨bb, ob, rfl, hbb, hcb⟩ := HB.out (by omega)
          have hjb : j < B.length := by omega
          have ca := hca j hjx
          have cb := hcb j (by omega)
          have hte := take_eq (A := A) (B := B) j hjx (by omega)
          obtain ⟨x, hx⟩ : ∃ x, x = A[j] := ⟨_, rfl⟩
          obtain ⟨y, hy⟩ : ∃ y, y = B[j]'(by omega) := ⟨_, rfl⟩
          rw [← hx] at ca
          rw [← hy] at cb
          rw [← hx, ← hy] at hte
          have HTE := Lib.hid hte
          have CA := Lib.hid (fun (w' : World) (hb' : Below wr.drew.heap.size wr.drew w') => ((chain bel.drew hb').cell (p := ⟨ba, oa + j, none⟩) hba).trans ca)
          have CB := Lib.hid (fun (w' : World) (hb' : Below wr.drew.heap.size wr.drew w') => ((chain bel.drew hb').cell (p := ⟨bb, ob + j, none⟩) hbb).trans cb)
          clear ca cb hca hcb hte hx hy
          by_cases hxy : x = y
          · have e3 := int_eqb hxy
            have HX := Lib.hid hxy
            clear hxy
            go_wp2_with fail
            refine g_start (by kernel_rfl) ?_
            refine g_take (i := 0) (d := (some 45)) (v := ?_) rfl rfl (by kernel_rfl) (fun _ _ _ h => h) (by rfl) (fun w' hb' => ?_) ?_
            rotate_left
            · (try go_simp); (try with_reducible rfl)
            try simp only [Act.put, List.setIfInBounds_toArray, List.set_cons_zero, List.set_cons_succ]
            refine g_take (i := 1) (d := (some 46)) (v := ?_) rfl rfl (by kernel_rfl) (fun _ _ _ h => h) (by rfl) (fun w' hb' => ?_) ?_
            rotate_left
            · (try go_simp); (try with_reducible rfl)
            try simp only [Act.put, List.setIfInBounds_toArray, List.set_cons_zero, List.set_cons_succ]
            refine g_take (i := 2) (d := (some 47)) (v := ?_) rfl rfl (by kernel_rfl) (fun _ _ _ h => h) (by rfl) (fun w' hb' => ?_) ?_
            rotate_left
            · (try go_simp); (try with_reducible rfl)
            try simp only [Act.put, List.setIfInBounds_toArray, List.set_cons_zero, List.set_cons_succ]
            refine g_take (i := 3) (d := (some 48)) (v := ?_) rfl rfl (by kernel_rfl) (fun _ _ _ h => h) (by rfl) (fun w' hb' => ?_) ?_
            rotate_left
            · have hc := CA.out _ hb'; (try go_simp); (try with_reducible rfl)
            try simp only [Act.put, List.setIfInBounds_toArray, List.set_cons_zero, List.set_cons_succ]
            refine g_take (i := 4) (d := (some 49)) (v := ?_) rfl rfl (by kernel_rfl) (fun _ _ _ h => h) (by rfl) (fun w' hb' => ?_) ?_
            rotate_left
            · (try go_simp); (try with_reducible rfl)
            try simp only [Act.put, List.setIfInBounds_toArray, List.set_cons_zero, List.set_cons_succ]
            refine g_take (i := 5) (d := (some 50)) (v := ?_) rfl rfl (by kernel_rfl) (fun _ _ _ h => h) (by rfl) (fun w' hb' => ?_) ?_
            rotate_left
            · (try go_simp); (try with_reducible rfl)
            try simp only [Act.put, List.setIfInBounds_toArray, List.set_cons_zero, List.set_cons_succ]
            refine g_take (i := 6) (d := (some 51)) (v := ?_) rfl rfl (by kernel_rfl) (fun _ _ _ h => h) (by rfl) (fun w' hb' => ?_) ?_
            rotate_left
            · (try go_simp); (try with_reducible rfl)
            try simp only [Act.put, List.setIfInBounds_toArray, List.set_cons_zero, List.set_cons_succ]
            refine g_take (i := 7) (d := (some 52)) (v := ?_) rfl rfl (by kernel_rfl) (fun _ _ _ h => h) (by rfl) (fun w' hb' => ?_) ?_
            rotate_left
            · have hc := CB.out _ hb'; (try go_simp); (try with_reducible rfl)
            try simp only [Act.put, List.setIfInBounds_toArray, List.set_cons_zero, List.set_cons_succ]
            refine g_take (i := 8) (d := (some 53)) (v := ?_) rfl rfl (by kernel_rfl) (fun _ _ _ h => h) (by rfl) (fun w' hb' => ?_) ?_
            rotate_left
            · (try go_simp); (try with_reducible rfl)
            try simp only [Act.put, List.setIfInBounds_toArray, List.set_cons_zero, List.set_cons_succ]
            refine g_take (i := 9) (d := (some 10)) (v := ?_) rfl rfl (by kernel_rfl) (fun _ _ _ h => h) (by rfl) (fun w' hb' => ?_) ?_
            rotate_left
            · (try go_simp); (try with_reducible rfl)
            try simp only [Act.put, List.setIfInBounds_toArray, List.set_cons_zero, List.set_cons_succ]
            refine g_done (by kernel_rfl) ?_
            go_wp2_with fail
            go_roundw
            case rel => exact ⟨j + 1, true, by omega, rfl, by go_num, bel.drew, Lib.hid (by symm; rw [decide_eq_true_eq, HTE.out]; exact ⟨of_decide_eq_true HS.out.symm, HX.out⟩)⟩
            case measure => simp [intOf]; omega
          · have e3 := int_neb hxy
            have HX := Lib.hid hxy
            clear hxy
            go_wp2_with fail
            refine g_start (by kernel_rfl) ?_
            refine g_take (i := 0) (d := (some 45)) (v := ?_) rfl rfl (by kernel_rfl) (fun _ _ _ h => h) (by rfl) (fun w' hb' => ?_) ?_
            rotate_left
            · (try go_simp); (try with_reducible rfl)
            try simp only [Act.put, List.setIfInBounds_toArray, List.set_cons_zero, List.set_cons_succ]
            refine g_take (i := 1) (d := (some 46)) (v := ?_) rfl rfl (by kernel_rfl) (fun _ _ _ h => h) (by rfl) (fun w' hb' => ?_) ?_
            rotate_left
            · (try go_simp); (try with_reducible rfl)
            try simp only [Act.put, List.setIfInBounds_toArray, List.set_cons_zero, List.set_cons_succ]
            refine g_take (i := 2) (d := (some 47)) (v := ?_) rfl rfl (by kernel_rfl) (fun _ _ _ h => h) (by rfl) (fun w' hb' => ?_) ?_
            rotate_left
            · (try go_simp); (try with_reducible rfl)
            try simp only [Act.put, List.setIfInBounds_toArray, List.set_cons_zero, List.set_cons_succ]
            refine g_take (i := 3) (d := (some 48)) (v := ?_) rfl rfl (by kernel_rfl) (fun _ _ _ h => h) (by rfl) (fun w' hb' => ?_) ?_
            rotate_left
            · have hc := CA.out _ hb'; (try go_simp); (try with_reducible rfl)
            try simp only [Act.put, List.setIfInBounds_toArray, List.set_cons_zero, List.set_cons_succ]
            refine g_take (i := 4) (d := (some 49)) (v := ?_) rfl rfl (by kernel_rfl) (fun _ _ _ h => h) (by rfl) (fun w' hb' => ?_) ?_
            rotate_left
            · (try go_simp); (try with_reducible rfl)
            try simp only [Act.put, List.setIfInBounds_toArray, List.set_cons_zero, List.set_cons_succ]
            refine g_take (i := 5) (d := (some 50)) (v := ?_) rfl rfl (by kernel_rfl) (fun _ _ _ h => h) (by rfl) (fun w' hb' => ?_) ?_
            rotate_left
            · (try go_simp); (try with_reducible rfl)
            try simp only [Act.put, List.setIfInBounds_toArray, List.set_cons_zero, List.set_cons_succ]
            refine g_take (i := 6) (d := (some 51)) (v := ?_) rfl rfl (by kernel_rfl) (fun _ _ _ h => h) (by rfl) (fun w' hb' => ?_) ?_
            rotate_left
            · (try go_simp); (try with_reducible rfl)
            try simp only [Act.put, List.setIfInBounds_toArray, List.set_cons_zero, List.set_cons_succ]
            refine g_take (i := 7) (d := (some 52)) (v := ?_) rfl rfl (by kernel_rfl) (fun _ _ _ h => h) (by rfl) (fun w' hb' => ?_) ?_
            rotate_left
            · have hc := CB.out _ hb'; (try go_simp); (try with_reducible rfl)
            try simp only [Act.put, List.setIfInBounds_toArray, List.set_cons_zero, List.set_cons_succ]
            refine g_take (i := 8) (d := (some 53)) (v := ?_) rfl rfl (by kernel_rfl) (fun _ _ _ h => h) (by rfl) (fun w' hb' => ?_) ?_
            rotate_left
            · (try go_simp); (try with_reducible rfl)
            try simp only [Act.put, List.setIfInBounds_toArray, List.set_cons_zero, List.set_cons_succ]
            refine g_take (i := 9) (d := (some 10)) (v := ?_) rfl rfl (by kernel_rfl) (fun _ _ _ h => h) (by rfl) (fun w' hb' => ?_) ?_
            rotate_left
            · (try go_simp); (try with_reducible rfl)
            try simp only [Act.put, List.setIfInBounds_toArray, List.set_cons_zero, List.set_cons_succ]
            refine g_done (by kernel_rfl) ?_
            go_wp2_with fail
            go_roundw
            case rel => exact ⟨j + 1, false, by omega, rfl, by go_num, bel.drew, Lib.hid (by symm; rw [decide_eq_false_iff_not, HTE.out]; exact fun h => HX.out h.2)⟩
            case measure => simp [intOf]; omega
        · skip
          have HE2 := Lib.hid (show (X == Y) = true from by rw [HXY.out]; rw [decide_eq_true_eq]; have := of_decide_eq_true HS.out.symm; rw [List.take_of_length_le (by omega), List.take_of_length_le (by have := HLL.out; omega)] at this; exact this)
          have hxy := HE2.out
          go_wp2_with (go_at_call 17; refine (awake_any _ (HT.out.below B3)).mono ?_; rintro e w9 ⟨rfl, g9⟩)
          all_goals (go_ret; exact ⟨rfl, chain B3 g9⟩)
  · have hl2 := int_neb (show (A.length : Int) ≠ B.length by omega)
    have HLL := Lib.hid hl
    clear hl
    go_wp2_with fail
    go_loopw [10, 11] (fun s i wr => s = .bool false ∧ i = .int .i64 0 ∧ Below w2.heap.size w2 wr) (fun _ i _ => 200 - (intOf i).toNat)
    case atStart => exact ⟨rfl, rfl, Below.refl _ _⟩
    case round =>
      obtain ⟨rfl, rfl, bel⟩ := hrel
      have B3 := chain B2 bel
      have HE2 := Lib.hid (show (X == Y) = false from by rw [HXY.out]; rw [decide_eq_false_iff_not]; intro h; exact HLL.out (by rw [h]))
      have hxy := HE2.out
      go_wp2_with (go_at_call 17; refine (awake_any _ (HT.out.below B3)).mono ?_; rintro e w9 ⟨rfl, g9⟩)
      all_goals (go_ret; exact ⟨rfl, chain B3 g9⟩)
end Go.Proofs.YtblhgliegoickaaDoor
