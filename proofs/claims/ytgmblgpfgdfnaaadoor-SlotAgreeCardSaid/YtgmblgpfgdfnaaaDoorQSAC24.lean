/- Slots: the law's votesOf, text, Few. Written by wip/tools/gen29l.py. -/
import Derived.Test.YtgmblgpfgdfnaaaDoorQSAC22
import Derived.Test.YtgmblgpfgdfnaaaDoorQSAC23
namespace Go.Proofs.YtgmblgpfgdfnaaaDoor
open Go Go.RowKit
set_option linter.unusedVariables false
set_option linter.unusedSimpArgs false
set_option maxRecDepth 100000
theorem vote_cells : (Tryd.prog.info? 26).map (·.size) = some 3 := by kernel_rfl
theorem set3_new {w : World} {B : Nat} {a0 a1 a2 u0 u1 u2 : Value} {t : TypeId} (h : w.heap[B]? = some (.cells #[a0, a1, a2] t (0, 0))) :
    (((w.setCell ⟨B, 0, none⟩ u0).setCell ⟨B, 1, none⟩ u1).setCell ⟨B, 2, none⟩ u2).heap[B]? = some (.cells #[u0, u1, u2] t (0, 0)) := by
  simpa using set_at (i := 2) (u := u2) (set_at (i := 1) (u := u1) (set_at (i := 0) (u := u0) h))
def voC (o : Option Vt) : Vt := match o with | some x => x | none => vt0
theorem vo_at_k {l : List Vt} {p : Int} {k : Nat} (hk : k < l.length) (h1 : ∀ i (h : i < l.length), i < k → l[i].fr ≠ p) (h2 : l[k].fr = p) : voOf l p = some l[k] := by
  unfold voOf
  rw [List.find?_eq_some_iff_getElem]
  exact ⟨by simpa using h2, k, hk, rfl, fun j hj => by simpa using h1 j (by omega) hj⟩
theorem vo_none {l : List Vt} {p : Int} (h1 : ∀ i (h : i < l.length), i < l.length → l[i].fr ≠ p) : voOf l p = none := by
  unfold voOf
  rw [List.find?_eq_none]
  intro x hx
  obtain ⟨i, hi, rfl⟩ := List.getElem_of_mem hx
  simpa using h1 i hi hi
set_option maxHeartbeats 1000000 in
theorem votesOf_any (v : Value) (l : List Vt) (p : Int) (w : World) (h : RdT w v l) : Calls Tryd.prog 24 #[v, .int .i64 p] w fun e w' => e = .returned (.tuple #[vtV (voC (voOf l p)), .bool (voOf l p).isSome]) ∧ Below w.heap.size w w' := by
  obtain ⟨ao, cap, rfl, hc, hm, hr⟩ := RdK.open h
  have hr : RdT w (.slice ao l.length cap) l := hr
  obtain ⟨W0, hW0⟩ : ∃ W0, W0 = w.alloc (.cells #[.int .i64 0, .int .i64 0, .int .i64 0] 26) := ⟨_, rfl⟩
  have q0 : W0.heap[w.heap.size]? = some (.cells #[.int .i64 0, .int .i64 0, .int .i64 0] 26 (0, 0)) := by rw [hW0]; exact heap_alloc_new _ _
  have B0 : Below w.heap.size w W0 := by rw [hW0]; exact (Below.refl _ _).alloc (Nat.le_refl _) _
  have HRD := Lib.hid (hr.below B0 (Nat.le_refl _))
  obtain ⟨Z, hZ⟩ : ∃ Z : Ending → World → Prop, Z = fun e w' => e = .returned (.tuple #[vtV (voC (voOf l p)), .bool (voOf l p).isSome]) ∧ Below w.heap.size w w' := ⟨_, rfl⟩
  rw [← hZ]
  have HZ := Lib.hid hZ
  clear h hr hZ
  go_enter Tryd.func24, Tryd.ntmps24
  go_wp2_with fail
  rw [← hW0]
  clear hW0
  go_loopw [6] (fun i wr => ∃ k : Nat, k ≤ l.length ∧ i = .int .i64 (k : Int) ∧ Hid (∀ i (h : i < l.length), i < k → l[i].fr ≠ p) ∧ Below W0.heap.size W0 wr) (fun i _ => l.length - (intOf i).toNat)
  case atStart => exact ⟨0, Nat.zero_le _, rfl, Lib.hid (fun i _ h => by omega), Below.refl _ _⟩
  case round =>
    obtain ⟨k, hk, rfl, HA, bel⟩ := hrel
    by_cases hlt : k < l.length
    · obtain ⟨pb, po, rfl, hpb, C0, C1, C2⟩ := rdt_cells HRD.out k hlt
      have c0 := (bel.cell (p := ⟨pb, po + k * 3, none⟩) hpb).trans C0
      have c1 := (bel.cell (p := ⟨pb, po + k * 3 + 1, none⟩) hpb).trans C1
      have c2 := (bel.cell (p := ⟨pb, po + k * 3 + 2, none⟩) hpb).trans C2
      have q1 := (bel.block _ (lt_of_block q0)).trans q0
      obtain ⟨d0, d1, d2, df⟩ := block_cells3 q1
      obtain ⟨x, hx⟩ : ∃ x, x = l[k] := ⟨_, rfl⟩
      rw [← hx] at c0 c1 c2
      have HX := Lib.hid hx
      clear C0 C1 C2 hx
      obtain ⟨a, b, c⟩ := x
      simp only at c0 c1 c2
      by_cases hp : a = p
      · have f1 : (a == p) = true := by simpa using hp
        have HV := Lib.hid (show voOf l p = some ⟨a, b, c⟩ by rw [HX.out]; exact vo_at_k hlt HA.out (by rw [← HX.out]; exact hp))
        have QZ := Lib.hid (set3_new (u0 := .int .i64 a) (u1 := .int .i64 b) (u2 := .int .i64 c) q1)
        have FB := Lib.hid (below_grownB (chain B0 bel) (grown_setB (i := 2) (u := .int .i64 c) (grown_setB (i := 1) (u := .int .i64 b) (grown_setB (i := 0) (u := .int .i64 a) (grown_reflB (r := some w.heap.size))))) (chain B0 bel).size (Nat.le_refl _))
        clear hp q1
        go_wp2_with fail
        (try simp only [Exit.inBlock, Exit.then])
        refine bodyPost_ret (results_cell_row_tmp rfl _ _ _ _ _ (0, 0) _ rfl QZ.out Tryd.underlying26 rfl vote_cells) rfl ?_
        show Z (.returned _) _
        rw [HZ.out]
        exact ⟨by rw [HV.out]; rfl, FB.out⟩
      · have f1 : (a == p) = false := by simpa using hp
        have HN := Lib.hid (show ∀ i (h : i < l.length), i < k + 1 → l[i].fr ≠ p from fun i h hi => by
          rcases Nat.lt_or_eq_of_le (show i ≤ k by omega) with h2 | h2
          · exact HA.out i h h2
          · subst h2; rw [← HX.out]; exact hp)
        clear hp q1
        go_wp2_with fail
        exact ⟨⟨k + 1, by omega, by push_cast; rfl, HN, bel⟩, by simp [intOf]; omega⟩
    · obtain rfl : k = l.length := by omega
      have HV := Lib.hid (show voOf l p = none from vo_none HA.out)
      have q1 := (bel.block _ (lt_of_block q0)).trans q0
      obtain ⟨d0, d1, d2, df⟩ := block_cells3 q1
      have QZ := Lib.hid (set3_new (u0 := .int .i64 0) (u1 := .int .i64 0) (u2 := .int .i64 0) q1)
      have FB := Lib.hid (below_grownB (chain B0 bel) (grown_setB (i := 2) (u := .int .i64 0) (grown_setB (i := 1) (u := .int .i64 0) (grown_setB (i := 0) (u := .int .i64 0) (grown_reflB (r := some w.heap.size))))) (chain B0 bel).size (Nat.le_refl _))
      clear q1
      go_wp2_with fail
      (try simp only [Exit.inBlock, Exit.then])
      refine bodyPost_ret (results_cell_row_tmp rfl _ _ _ _ _ (0, 0) _ rfl QZ.out Tryd.underlying26 rfl vote_cells) rfl ?_
      show Z (.returned _) _
      rw [HZ.out]
      exact ⟨by rw [HV.out]; rfl, FB.out⟩
theorem str_extract (l : List UInt8) (n : Nat) : (str l).extract 0 n = str (l.take n) := by
  apply ByteArray.ext
  simp [str, ByteArray.data_extract]
theorem text_any (l : List UInt8) (w : World) (h : l.length ≤ maxLen) : Calls Tryd.prog 7 #[.string (str l)] w fun e w' => e = .returned (.string (str (l.take 65540))) ∧ w = w' := by
  have h1 : (str l).size = l.length := str_size l
  unfold maxLen at h
  by_cases hl : 65540 < l.length
  · have h2 := str_extract l 65540
    go_enter Tryd.func7, Tryd.ntmps7
    go_wp2_with fail
    go_ret
    exact ⟨by rw [← h2]; rfl, rfl⟩
  · rw [List.take_of_length_le (show l.length ≤ 65540 by omega)]
    go_enter Tryd.func7, Tryd.ntmps7
    go_wp2_with fail
    go_ret
    exact ⟨rfl, rfl⟩
def fewS (s : Sl) : Sl := ⟨s.has, s.vw, s.tm, s.body.take 65540, s.ps.take 66, s.cs.take 66⟩
/-- What comes back is a slot that is read. -/
def GivesF (w : World) (s : Sl) (e : Ending) (w' : World) : Prop := ∃ a1 n1 c1 a2 n2 c2, e = .returned (sV s (.slice a1 n1 c1) (.slice a2 n2 c2)) ∧ RdS w' s (.slice a1 n1 c1) (.slice a2 n2 c2) ∧ Below w.heap.size w w'
set_option maxHeartbeats 1000000 in
theorem few_any (s : Sl) (vP vC : Value) (w : World) (h : RdS w s vP vC) : Calls Tryd.prog 6 #[sV s vP vC] w (GivesF w (fewS s)) := by
  obtain ⟨aP, cP, rfl, hc1, hm1, hr1⟩ := RdK.open h.p
  obtain ⟨aC, cC, rfl, hc2, hm2, hr2⟩ := RdK.open h.c
  have hr1 : RdT w (.slice aP s.ps.length cP) s.ps := hr1
  have hr2 : RdT w (.slice aC s.cs.length cC) s.cs := hr2
  have TX0 := fun w' => text_any s.body w' h.b
  have hb := h.b
  obtain ⟨Z, hZ⟩ : ∃ Z, Z = GivesF w (fewS s) := ⟨_, rfl⟩
  rw [← hZ]
  unfold fewS at hZ
  have HZ := Lib.hid hZ
  obtain ⟨has, vw, tm, body, ps, cs⟩ := s
  unfold sV
  simp only at TX0 hr1 hr2 hc1 hc2 hb ⊢
  obtain ⟨S, hS⟩ : ∃ S, S = str body := ⟨_, rfl⟩
  obtain ⟨T, hT⟩ : ∃ T, T = str (body.take 65540) := ⟨_, rfl⟩
  rw [← hS, ← hT] at TX0
  rw [← hS]
  have HT := Lib.hid hT
  have TX := Lib.hid TX0
  have HBT := Lib.hid (show (body.take 65540).length ≤ maxLen from Nat.le_trans (List.length_take_le _ _) (by decide))
  clear h TX0 hZ hS hT hb
  by_cases hp : 66 < ps.length
  · have HRP := Lib.hid (RdK.short vtC_len hr1 66 (by omega))
    by_cases hq : 66 < cs.length
    · have HRC := Lib.hid (RdK.short vtC_len hr2 66 (by omega))
      go_enter Tryd.func6, Tryd.ntmps6
      go_wp2_with ((with_reducible refine (TX.out _).mono ?_); rintro e w9 ⟨rfl, rfl⟩)
      refine bodyPost_ret (results_cell_row rfl _ _ _ 24 #[.bool has, .int .i64 vw, .int .i64 tm, .string T, .slice aP 66 cP, .slice aC 66 cC] (0, 0) _ rfl ?_ Tryd.underlying24 rfl slot_size) rfl ?_
      rotate_left
      · show Z (.returned _) _
        rw [HZ.out]
        exact ⟨aP, 66, cP, aC, 66, cC, by rw [HT.out]; rfl, ⟨RdK.below HRP.out (((Below.refl w.heap.size w).alloc (Nat.le_refl _) _).alloc (by simp) _) (Nat.le_refl _), RdK.below HRC.out (((Below.refl w.heap.size w).alloc (Nat.le_refl _) _).alloc (by simp) _) (Nat.le_refl _), HBT.out⟩, (((Below.refl w.heap.size w).alloc (Nat.le_refl _) _).alloc (by simp) _)⟩
      · exact (two_allocs w _ _).2.1
    · have HRC := Lib.hid (show RdK 3 vtC w (.slice aC cs.length cC) (cs.take 66) by rw [List.take_of_length_le (by omega)]; exact hr2)
      go_enter Tryd.func6, Tryd.ntmps6
      go_wp2_with ((with_reducible refine (TX.out _).mono ?_); rintro e w9 ⟨rfl, rfl⟩)
      refine bodyPost_ret (results_cell_row rfl _ _ _ 24 #[.bool has, .int .i64 vw, .int .i64 tm, .string T, .slice aP 66 cP, .slice aC cs.length cC] (0, 0) _ rfl ?_ Tryd.underlying24 rfl slot_size) rfl ?_
      rotate_left
      · show Z (.returned _) _
        rw [HZ.out]
        exact ⟨aP, 66, cP, aC, cs.length, cC, by rw [HT.out]; rfl, ⟨RdK.below HRP.out (((Below.refl w.heap.size w).alloc (Nat.le_refl _) _).alloc (by simp) _) (Nat.le_refl _), RdK.below HRC.out (((Below.refl w.heap.size w).alloc (Nat.le_refl _) _).alloc (by simp) _) (Nat.le_refl _), HBT.out⟩, (((Below.refl w.heap.size w).alloc (Nat.le_refl _) _).alloc (by simp) _)⟩
      · exact (two_allocs w _ _).2.1
  · have HRP := Lib.hid (show RdK 3 vtC w (.slice aP ps.length cP) (ps.take 66) by rw [List.take_of_length_le (by omega)]; exact hr1)
    by_cases hq : 66 < cs.length
    · have HRC := Lib.hid (RdK.short vtC_len hr2 66 (by omega))
      go_enter Tryd.func6, Tryd.ntmps6
      go_wp2_with ((with_reducible refine (TX.out _).mono ?_); rintro e w9 ⟨rfl, rfl⟩)
      refine bodyPost_ret (results_cell_row rfl _ _ _ 24 #[.bool has, .int .i64 vw, .int .i64 tm, .string T, .slice aP ps.length cP, .slice aC 66 cC] (0, 0) _ rfl ?_ Tryd.underlying24 rfl slot_size) rfl ?_
      rotate_left
      · show Z (.returned _) _
        rw [HZ.out]
        exact ⟨aP, ps.length, cP, aC, 66, cC, by rw [HT.out]; rfl, ⟨RdK.below HRP.out (((Below.refl w.heap.size w).alloc (Nat.le_refl _) _).alloc (by simp) _) (Nat.le_refl _), RdK.below HRC.out (((Below.refl w.heap.size w).alloc (Nat.le_refl _) _).alloc (by simp) _) (Nat.le_refl _), HBT.out⟩, (((Below.refl w.heap.size w).alloc (Nat.le_refl _) _).alloc (by simp) _)⟩
      · exact (two_allocs w _ _).2.1
    · have HRC := Lib.hid (show RdK 3 vtC w (.slice aC cs.length cC) (cs.take 66) by rw [List.take_of_length_le (by omega)]; exact hr2)
      go_enter Tryd.func6, Tryd.ntmps6
      go_wp2_with ((with_reducible refine (TX.out _).mono ?_); rintro e w9 ⟨rfl, rfl⟩)
      refine bodyPost_ret (results_cell_row rfl _ _ _ 24 #[.bool has, .int .i64 vw, .int .i64 tm, .string T, .slice aP ps.length cP, .slice aC cs.length cC] (0, 0) _ rfl ?_ Tryd.underlying24 rfl slot_size) rfl ?_
      rotate_left
      · show Z (.returned _) _
        rw [HZ.out]
        exact ⟨aP, ps.length, cP, aC, cs.length, cC, by rw [HT.out]; rfl, ⟨RdK.below HRP.out (((Below.refl w.heap.size w).alloc (Nat.le_refl _) _).alloc (by simp) _) (Nat.le_refl _), RdK.below HRC.out (((Below.refl w.heap.size w).alloc (Nat.le_refl _) _).alloc (by simp) _) (Nat.le_refl _), HBT.out⟩, (((Below.refl w.heap.size w).alloc (Nat.le_refl _) _).alloc (by simp) _)⟩
      · exact (two_allocs w _ _).2.1
end Go.Proofs.YtgmblgpfgdfnaaaDoor
