/- Leaves: items in order; what a chunk's bytes are read as. Written by wip/tools/gen9z.py. -/
import Derived.Test.YtoagdmglchccnaaGreatDoorQRR23
namespace Go.Proofs.YtoagdmglchccnaaGreatDoor
open Go Go.RowKit
set_option linter.unusedVariables false
set_option linter.unusedSimpArgs false
def keyAt (l : List It) (i : Nat) : List UInt8 := ((l[i]?).map It.key).getD []
theorem keyAt_of {l : List It} {i : Nat} (h : i < l.length) : keyAt l i = l[i].key := by unfold keyAt; simp [h]
/-- Do the first k keys rise? -/
def ordK (l : List It) (k : Nat) : Bool := (List.range (k - 1)).all fun i => ltB (keyAt l i) (keyAt l (i + 1))
theorem ordK_1 (l : List It) : ordK l 1 = true := rfl
theorem ordK_succ (l : List It) (j : Nat) : ordK l (j + 2) = (ordK l (j + 1) && ltB (keyAt l j) (keyAt l (j + 1))) := by
  unfold ordK
  rw [show j + 2 - 1 = (j + 1 - 1) + 1 by omega, List.range_succ, List.all_append]
  simp
def mayK (l : List It) (k : Nat) : Bool := (l.take k).all mayI
theorem mayK_0 (l : List It) : mayK l 0 = true := by unfold mayK; simp
theorem mayK_succ {l : List It} {k : Nat} (h : k < l.length) : mayK l (k + 1) = (mayK l k && mayI l[k]) := by
  unfold mayK; rw [List.take_succ_eq_append_getElem h, List.all_append]; simp
theorem mayK_no {l : List It} {k : Nat} (h : k < l.length) (hm : mayI l[k] = false) : mayK l l.length = false := by
  unfold mayK
  rw [List.take_length, List.all_eq_false]
  exact ⟨_, List.getElem_mem h, by simp [hm]⟩
theorem ordK_no {l : List It} {j : Nat} (h : j + 1 < l.length) (hm : ltB l[j].key l[j + 1].key = false) : ordK l l.length = false := by
  unfold ordK
  rw [List.all_eq_false]
  exact ⟨j, List.mem_range.2 (by omega), by rw [keyAt_of (by omega), keyAt_of h]; simp [hm]⟩
/-- What is wrong with a list of items. -/
def srtL (l : List It) : Nat := if mayK l l.length = false then 1 else if ordK l l.length = false then 3 else 0
theorem srtL_may {l : List It} {k : Nat} (h : k < l.length) (hm : mayI l[k] = false) : srtL l = 1 := by unfold srtL; rw [if_pos (mayK_no h hm)]
def eK (l : List It) (k : Nat) : Nat := if ordK l k = false then 3 else 0
theorem eK_of {l : List It} {k : Nat} (h : mayK l k = true) (hk : k = l.length) : srtL l = eK l k := by subst hk; unfold srtL eK; rw [if_neg (by simp [h])]
theorem eK_up (l : List It) (j : Nat) (h : ltB (keyAt l j) (keyAt l (j + 1)) = true) : eK l (j + 2) = eK l (j + 1) := by unfold eK; rw [ordK_succ, h, Bool.and_true]
theorem eK_3 (l : List It) (j : Nat) (h : ltB (keyAt l j) (keyAt l (j + 1)) = false) : eK l (j + 2) = 3 := by unfold eK; rw [ordK_succ, h]; simp
set_option maxRecDepth 100000 in
set_option maxHeartbeats 1000000 in
theorem sorted_any (v : Value) (l : List It) (w : World) (tab : TabAt w) (h : RdI w v l) (hsz : SzI l) (h300 : l.length ≤ 300) :
    Calls Tryz.prog 125 #[v] w fun e w' => e = .returned (.int .i64 (srtL l : Int)) ∧ Below w.heap.size w w' := by
  obtain ⟨ao, cap, rfl, hc, hm, hr⟩ := RdK.open h
  have HS := Lib.hid hsz
  have HRD := Lib.hid (show RdI w (.slice ao l.length cap) l from hr)
  obtain ⟨R, hR⟩ : ∃ R, R = srtL l := ⟨_, rfl⟩
  rw [← hR]
  have HR := Lib.hid hR
  clear hr h hR hsz
  go_enter Tryz.func125, Tryz.ntmps125
  go_wp2_with fail
  go_loopw [3, 8] (fun e i wr => ∃ (k E : Nat), k ≤ l.length ∧ i = .int .i64 (k : Int) ∧ e = .int .i64 (E : Int) ∧ Hid (E = eK l k) ∧ Hid (mayK l k = true) ∧ Below w.heap.size w wr) (fun _ i _ => 400 - (intOf i).toNat)
  case atStart => exact ⟨0, 0, Nat.zero_le _, rfl, rfl, Lib.hid rfl, Lib.hid (mayK_0 l), Below.refl _ _⟩
  case round =>
    obtain ⟨k, E, hk, rfl, rfl, HE, HM, bel⟩ := hrel
    by_cases hlt : k < l.length
    · have hr := HRD.out
      have R1 := hr.below bel (Nat.le_refl _)
      obtain ⟨b, off, rfl, hb, c0, c1, c2, c3, c4⟩ := rdi_cells R1 k hlt
      obtain ⟨x, hx⟩ : ∃ x, x = l[k] := ⟨_, rfl⟩
      rw [← hx] at c0 c1 c2 c3 c4
      have hxk : x.key.length ≤ maxLen := by rw [hx]; exact (HS.out _ (List.getElem_mem _)).1
      have hxs : x.v.s.length ≤ maxLen := by rw [hx]; exact (HS.out _ (List.getElem_mem _)).2
      have M1 := leafMay_any x hxk hxs
      unfold itV at M1
      have HX := Lib.hid hx
      obtain ⟨W8, hW8⟩ : ∃ W8, W8 = wr.alloc (.cells #[.string (str x.key), .int .i64 x.v.k, .int .i64 x.v.i, .string (str x.v.s), .int .i64 x.ver] 154) := ⟨_, rfl⟩
      have q8 : W8.heap[wr.heap.size]? = some (.cells #[.string (str x.key), .int .i64 x.v.k, .int .i64 x.v.i, .string (str x.v.s), .int .i64 x.ver] 154 (0, 0)) := by rw [hW8]; exact heap_alloc_new _ _
      have A8 : Below wr.heap.size wr W8 := by rw [hW8]; exact (Below.refl _ _).alloc (Nat.le_refl _) _
      have B1 := chain bel A8
      clear R1 hx
      cases hm : mayI x with
      | false =>
        rw [hm] at M1
        have M := M1.at W8 (tab.below B1)
        subst hW8
        have EQ := Lib.hid (show srtL l = 1 from srtL_may hlt (by rw [← HX.out]; exact hm))
        clear hm hr M1 HRD
        go_wp2_with fail
        refine M.mono ?_
        rintro e w2 ⟨rfl, g2⟩
        have B2 := chain B1 g2
        clear g2 M
        go_wp2_with fail
        go_ret
        exact ⟨by rw [HR.out, EQ.out]; rfl, B2⟩
      | true =>
        rw [hm] at M1
        have M := M1.at W8 (tab.below B1)
        subst hW8
        have HM2 := Lib.hid (show mayK l (k + 1) = true by rw [mayK_succ hlt, HM.out, ← HX.out, hm]; rfl)
        clear M1 hm
        by_cases h0 : k = 0
        · have HE2 := Lib.hid (show E = eK l (k + 1) by have h := HE.out; subst h0; exact h)
          have f3 : decide (0 < (k : Int)) = false := by simp; omega
          have f3n : decide (0 < k) = false := by simp; omega
          have H0 := Lib.hid h0
          clear h0
          go_wp2_with fail
          refine M.mono ?_
          rintro e w2 ⟨rfl, g2⟩
          have B2 := chain B1 g2
          have q9 := (g2.block _ (lt_of_block q8)).trans q8
          obtain ⟨d0, d1, d2, d3, d4, -⟩ := block_cells5 q9
          clear g2 M
          clear hr HRD
          go_wp2_with fail
          go_quiet (fail)
          have B3 := below_drewN (k := nq) B2
          go_wp2_with fail
          exact ⟨⟨k + 1, E, by omega, by push_cast; rfl, rfl, HE2, HM2, B3⟩, by simp [intOf]; omega⟩
        · have f0 : 0 < k := by omega
          clear h0
          go_wp2_with fail
          refine M.mono ?_
          rintro e w2 ⟨rfl, g2⟩
          have B2 := chain B1 g2
          have q9 := (g2.block _ (lt_of_block q8)).trans q8
          obtain ⟨d0, d1, d2, d3, d4, -⟩ := block_cells5 q9
          clear g2 M
          obtain ⟨j, hj⟩ : ∃ j, k = j + 1 := ⟨k - 1, by omega⟩
          have R2 := hr.below B2 (Nat.le_refl _)
          have hjl : j < l.length := by omega
          obtain ⟨b', off', hbo, -, e0, -⟩ := rdi_cells R2 j hjl
          cases hbo
          obtain ⟨y, hy⟩ : ∃ y, y = l[j]'hjl := ⟨_, rfl⟩
          rw [← hy] at e0
          have f1 : IntKind.i64.wrap ((k : Int) - 1) = (j : Int) := by rw [IntKind.wrap_i64]; omega
          have f2 : (k : Int) - 1 = (j : Int) := by omega
          have f3 : decide (0 < (k : Int)) = true := by simp; omega
          have f4 : (j : Int) < l.length := by omega
          have hyk : y.key.length ≤ maxLen := by rw [hy]; exact (HS.out _ (List.getElem_mem _)).1
          have KY := Lib.hid (show keyAt l j = y.key by rw [keyAt_of hjl, hy])
          have KX := Lib.hid (show keyAt l (j + 1) = x.key by have h := HX.out; subst hj; rw [keyAt_of hlt, h])
          have HJ := Lib.hid hj
          clear hy hj
          cases ho : ltB y.key x.key with
          | false =>
            have HE2 := Lib.hid (show 3 = eK l (k + 1) by have hj := HJ.out; subst hj; exact (eK_3 l j (by rw [KY.out, KX.out]; exact ho)).symm)
            have fL := fun W => leq_str x.key y.key W
            simp only [ho, Bool.not_false, Bool.not_true] at fL
            clear ho R2
            go_wp2_with fail
            go_quiet (fail)
            have B3 := below_drewN (k := nq) B2
            go_wp2_with fail
            exact ⟨⟨k + 1, 3, by omega, by push_cast; rfl, rfl, HE2, HM2, B3⟩, by simp [intOf]; omega⟩
          | true =>
            have HE2 := Lib.hid (show E = eK l (k + 1) by have hj := HJ.out; have he := HE.out; subst hj; rw [he]; exact (eK_up l j (by rw [KY.out, KX.out]; exact ho)).symm)
            have fL := fun W => leq_str x.key y.key W
            simp only [ho, Bool.not_false, Bool.not_true] at fL
            clear ho R2
            go_wp2_with fail
            go_quiet (fail)
            have B3 := below_drewN (k := nq) B2
            go_wp2_with fail
            exact ⟨⟨k + 1, E, by omega, by push_cast; rfl, rfl, HE2, HM2, B3⟩, by simp [intOf]; omega⟩
    · obtain rfl : k = l.length := by omega
      have EQ := Lib.hid (eK_of HM.out rfl)
      go_wp2_with fail
      go_ret
      exact ⟨by rw [HR.out, EQ.out, HE.out]; rfl, bel⟩
end Go.Proofs.YtoagdmglchccnaaGreatDoor
