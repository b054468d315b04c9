/- Locks: the document's Begin and End; the chapter's examples. Written by wip/tools/gen24d.py. -/
import Derived.Test.YtjmfiekgpoonjaaDoorQLGC26
namespace Go.Proofs.YtjmfiekgpoonjaaDoor
open Go Go.RowKit
set_option linter.unusedVariables false
set_option linter.unusedSimpArgs false
def rbC (L : List Wt) (at' : List Nat) (i : Nat) : Nat := if at'.getD i 0 ≠ 0 then 16 else if rmB L at' i = false then 20 else 0
def rbA (L : List Wt) (at' : List Nat) (i : Nat) : List Nat := if rbC L at' i = 0 then at'.set i 1 else at'
/-- The law's own list of how far all are. -/
def OwnA (w : World) (base Ba N : Nat) (at' : List Nat) : Prop := w.ownsRow base 3 1 (.slice (some ⟨Ba, 0, none⟩) N N) N (at'.map iv)
def TurnA (w : World) (base Ba N : Nat) (at' : List Nat) (c : Nat) (e : Ending) (w' : World) : Prop := e = .returned (.int .i64 (c : Int)) ∧ OwnA w' base Ba N at' ∧ w.grownBy w' (some Ba)
theorem OwnA.rd {w : World} {base Ba N : Nat} {at' : List Nat} (h : OwnA w base Ba N at') : RdI w (.slice (some ⟨Ba, 0, none⟩) N N) at' := own_rdv h
theorem OwnA.len {w : World} {base Ba N : Nat} {at' : List Nat} (h : OwnA w base Ba N at') : at'.length = N := by have := h.1; simpa using this
theorem OwnA.cell {w : World} {base Ba N : Nat} {at' : List Nat} (h : OwnA w base Ba N at') (i : Nat) (hi : i < N) : w.cell? ⟨Ba, i, none⟩ = some (.int .i64 ((at'.getD i 0 : Nat) : Int)) := by
  have hl := h.len
  have e := h.cellAt i (by omega)
  rw [e, List.getElem?_map, List.getElem?_eq_getElem (by omega : i < at'.length)]
  simp [List.getD, (by omega : i < at'.length), iv]
theorem OwnA.set {w : World} {base Ba N : Nat} {at' : List Nat} (h : OwnA w base Ba N at') (i x : Nat) : OwnA (w.setCell ⟨Ba, i, none⟩ (.int .i64 (x : Int))) base Ba N (at'.set i x) := by
  obtain ⟨h2, -⟩ := h.stored i (.int .i64 (x : Int))
  unfold OwnA
  rw [List.map_set]
  exact h2
set_option maxRecDepth 100000 in
theorem rend_no (Ba N : Nat) (i : Int) (w : World) (hi : hasB N i = false) :
    Calls Tryd.prog 21 #[.slice (some ⟨Ba, 0, none⟩) N N, .int .i64 i] w fun e w' => e = .returned (.int .i64 4) ∧ w = w' := by
  by_cases h0 : i < 0
  · clear hi
    go_enter Tryd.func21, Tryd.ntmps21
    go_wp2_with fail
    go_ret
    exact ⟨rfl, rfl⟩
  · have h1 : (N : Int) ≤ i := by
      unfold hasB at hi
      rw [Bool.and_eq_false_iff, decide_eq_false_iff_not, decide_eq_false_iff_not] at hi
      omega
    clear hi
    go_enter Tryd.func21, Tryd.ntmps21
    go_wp2_with fail
    go_ret
    exact ⟨rfl, rfl⟩
set_option maxRecDepth 100000 in
set_option maxHeartbeats 1000000 in
theorem rend_yes (base Ba N : Nat) (at' : List Nat) (i : Nat) (hi : i < N) (h64 : N ≤ 64) (w : World) (hA : OwnA w base Ba N at') :
    Calls Tryd.prog 21 #[.slice (some ⟨Ba, 0, none⟩) N N, .int .i64 (i : Int)] w (TurnA w base Ba N (enA at' i) (enC at' i)) := by
  have cI := hA.cell i hi
  have fI := hA.frozenAt i
  have hii : (i : Int) < (N : Int) := by omega
  have HT := Lib.hid hA
  obtain ⟨Z, hZ⟩ : ∃ Z, Z = TurnA w base Ba N (enA at' i) (enC at' i) := ⟨_, rfl⟩
  rw [← hZ]
  have HZ := Lib.hid hZ
  have HA := Lib.hid (show enA at' i = if enC at' i = 0 then at'.set i 2 else at' from rfl)
  have HC := Lib.hid (show enC at' i = if at'.getD i 0 = 0 then 6 else if at'.getD i 0 = 2 then 16 else 0 from rfl)
  obtain ⟨x, hx⟩ : ∃ x, x = at'.getD i 0 := ⟨_, rfl⟩
  rw [← hx] at cI HC
  clear hA hx hZ
  by_cases h0 : x = 0
  · have d0 : ((x : Int) == 0) = true := by rw [h0]; rfl
    have HC' := Lib.hid (show enC at' i = 6 by rw [HC.out, if_pos h0])
    have HA' := Lib.hid (show enA at' i = at' by rw [HA.out, if_neg (by rw [HC'.out]; decide)])
    clear h0
    go_enter Tryd.func21, Tryd.ntmps21
    go_wp2_with fail
    show Z (.returned _) _
    rw [HZ.out]
    exact ⟨by rw [HC'.out]; first | done | rfl, by rw [HA'.out]; exact HT.out, grown_of_below (Below.refl _ _)⟩
  · have d0 : ((x : Int) == 0) = false := by rw [beq_eq_false_iff_ne]; omega
    by_cases h1 : x = 2
    · have d1 : ((x : Int) == 2) = true := by rw [h1]; rfl
      have HC' := Lib.hid (show enC at' i = 16 by rw [HC.out, if_neg h0, if_pos h1])
      have HA' := Lib.hid (show enA at' i = at' by rw [HA.out, if_neg (by rw [HC'.out]; decide)])
      clear h0 h1
      go_enter Tryd.func21, Tryd.ntmps21
      go_wp2_with fail
      show Z (.returned _) _
      rw [HZ.out]
      exact ⟨by rw [HC'.out]; first | done | rfl, by rw [HA'.out]; exact HT.out, grown_of_below (Below.refl _ _)⟩
    · have d1 : ((x : Int) == 2) = false := by rw [beq_eq_false_iff_ne]; omega
      have HC' := Lib.hid (show enC at' i = 0 by rw [HC.out, if_neg h0, if_neg h1])
      have HA' := Lib.hid (show enA at' i = at'.set i 2 by rw [HA.out, if_pos HC'.out])
      clear h0 h1
      go_enter Tryd.func21, Tryd.ntmps21
      go_wp2_with fail
      show Z (.returned _) _
      rw [HZ.out]
      exact ⟨by rw [HC'.out]; first | done | rfl, by rw [HA'.out]; exact HT.out.set i 2, grown_set⟩
set_option maxRecDepth 100000 in
theorem rbegin_no (vl : Value) (a : Option Addr) (c : Nat) (vA : Value) (N : Nat) (hv : vl = .slice a N c) (i : Int) (w : World) (hi : hasB N i = false) :
    Calls Tryd.prog 23 #[vl, vA, .int .i64 i] w fun e w' => e = .returned (.int .i64 4) ∧ w = w' := by
  subst hv
  by_cases h0 : i < 0
  · clear hi
    go_enter Tryd.func23, Tryd.ntmps23
    go_wp2_with fail
    go_ret
    exact ⟨rfl, rfl⟩
  · have h1 : (N : Int) ≤ i := by
      unfold hasB at hi
      rw [Bool.and_eq_false_iff, decide_eq_false_iff_not, decide_eq_false_iff_not] at hi
      omega
    clear hi
    go_enter Tryd.func23, Tryd.ntmps23
    go_wp2_with fail
    go_ret
    exact ⟨rfl, rfl⟩
set_option maxRecDepth 100000 in
set_option maxHeartbeats 1000000 in
theorem rbegin_yes (vl : Value) (ps : List WV) (L : List Wt) (base Ba : Nat) (at' : List Nat) (i : Nat) (hi : i < L.length) (w : World) (tab : TabAt w) (h : RdL w vl ps L) (hz : SzL L) (hall : allB L = true) (hA : OwnA w base Ba L.length at') :
    Calls Tryd.prog 23 #[vl, .slice (some ⟨Ba, 0, none⟩) L.length L.length, .int .i64 (i : Int)] w (TurnA w base Ba L.length (rbA L at' i) (rbC L at' i)) := by
  obtain ⟨ao, cap, rfl, hc1, hc2, hr⟩ := h.open
  have MY := Lib.hid (rmay_any24 (.slice ao L.length cap) ps L _ at' i hi w tab hr hz hall hA.rd hA.len)
  have cI := hA.cell i hi
  have hii : (i : Int) < (L.length : Int) := by omega
  have HT := Lib.hid hA
  obtain ⟨Z, hZ⟩ : ∃ Z, Z = TurnA w base Ba L.length (rbA L at' i) (rbC L at' i) := ⟨_, rfl⟩
  rw [← hZ]
  have HZ := Lib.hid hZ
  have HA := Lib.hid (show rbA L at' i = if rbC L at' i = 0 then at'.set i 1 else at' from rfl)
  have HC := Lib.hid (show rbC L at' i = if at'.getD i 0 ≠ 0 then 16 else if rmB L at' i = false then 20 else 0 from rfl)
  obtain ⟨x, hx⟩ : ∃ x, x = at'.getD i 0 := ⟨_, rfl⟩
  rw [← hx] at cI HC
  obtain ⟨B, hB⟩ : ∃ B, B = rmB L at' i := ⟨_, rfl⟩
  rw [← hB] at MY HC
  clear h hr hz tab hall hA hx hB hZ
  by_cases h0 : x = 0
  · have d0 : decide (0 < (x : Int)) = false := decide_eq_false (by omega)
    have d00 : decide (0 < x) = false := decide_eq_false (by omega)
    cases B with
    | true =>
      have HC' := Lib.hid (show rbC L at' i = 0 by rw [HC.out, if_neg (by omega)]; rfl)
      have HA' := Lib.hid (show rbA L at' i = at'.set i 1 by rw [HA.out, if_pos HC'.out])
      clear h0
      go_enter Tryd.func23, Tryd.ntmps23
      go_wp2_with ((with_reducible refine (MY.out).mono ?_); rintro e w2 ⟨rfl, g⟩; have T2 := own_keep HT.out g; have cI2 := OwnA.cell T2 i hi; have fI2 := World.ownsRow.frozenAt T2 i)
      show Z (.returned _) _
      rw [HZ.out]
      exact ⟨by rw [HC'.out]; first | done | rfl, by rw [HA'.out]; exact OwnA.set T2 i 1, grown_tr (grown_of_below g) grown_set⟩
    | false =>
      have HC' := Lib.hid (show rbC L at' i = 20 by rw [HC.out, if_neg (by omega)]; rfl)
      have HA' := Lib.hid (show rbA L at' i = at' by rw [HA.out, if_neg (by rw [HC'.out]; decide)])
      clear h0
      go_enter Tryd.func23, Tryd.ntmps23
      go_wp2_with ((with_reducible refine (MY.out).mono ?_); rintro e w2 ⟨rfl, g⟩)
      show Z (.returned _) _
      rw [HZ.out]
      exact ⟨by rw [HC'.out]; first | done | rfl, by rw [HA'.out]; exact own_keep HT.out g, grown_of_below g⟩
  · have d0 : decide (0 < (x : Int)) = true := decide_eq_true (by omega)
    have d00 : decide (0 < x) = true := decide_eq_true (by omega)
    have HC' := Lib.hid (show rbC L at' i = 16 by rw [HC.out, if_pos h0])
    have HA' := Lib.hid (show rbA L at' i = at' by rw [HA.out, if_neg (by rw [HC'.out]; decide)])
    clear h0
    go_enter Tryd.func23, Tryd.ntmps23
    go_wp2_with fail
    show Z (.returned _) _
    rw [HZ.out]
    exact ⟨by rw [HC'.out]; first | done | rfl, by rw [HA'.out]; exact HT.out, grown_of_below (Below.refl _ _)⟩
theorem own_grown {w w' : World} {base B : Nat} {e : TypeId} {s : Nat} {v : Value} {n : Nat} {xs : List Value} (h : w.ownsRow base e s v n xs) (g : w.grownBy w' (some B)) (hB : B < base) : w'.ownsRow base e s v n xs := by
  refine h.kept g ?_
  cases ev : v.ownBlock with
  | none => exact .inl rfl
  | some q =>
    refine .inr fun e2 => ?_
    have h1 := (h.lt q ev).1
    have e3 : q = B := by simpa using e2
    omega
set_option maxRecDepth 100000 in
theorem four_mem (w : World) : ∃ ps, RdL (((((w.alloc (.cells #[.string ⟨#[97, 47]⟩] 9)).alloc (.cells #[.string ⟨#[97, 47, 49]⟩] 9)).alloc (.cells #[.string ⟨#[98]⟩] 9)).alloc (.cells #[.string ⟨#[]⟩] 9)).alloc (.cells #[.slice none 0 0, .slice (some ⟨w.heap.size, 0, none⟩) 1 1, .slice (some ⟨w.heap.size + 1, 0, none⟩) 1 1, .slice none 0 0, .slice (some ⟨w.heap.size + 2, 0, none⟩) 1 1, .slice none 0 0, .slice none 0 0, .slice (some ⟨w.heap.size + 3, 0, none⟩) 1 1] 24)) (.slice (some ⟨w.heap.size + 4, 0, none⟩) 4 4) ps fourL ∧ Below w.heap.size w (((((w.alloc (.cells #[.string ⟨#[97, 47]⟩] 9)).alloc (.cells #[.string ⟨#[97, 47, 49]⟩] 9)).alloc (.cells #[.string ⟨#[98]⟩] 9)).alloc (.cells #[.string ⟨#[]⟩] 9)).alloc (.cells #[.slice none 0 0, .slice (some ⟨w.heap.size, 0, none⟩) 1 1, .slice (some ⟨w.heap.size + 1, 0, none⟩) 1 1, .slice none 0 0, .slice (some ⟨w.heap.size + 2, 0, none⟩) 1 1, .slice none 0 0, .slice none 0 0, .slice (some ⟨w.heap.size + 3, 0, none⟩) 1 1] 24)) := by
  obtain ⟨W1, e1⟩ : ∃ W, W = w.alloc (.cells #[.string ⟨#[97, 47]⟩] 9) := ⟨_, rfl⟩
  obtain ⟨W2, e2⟩ : ∃ W, W = W1.alloc (.cells #[.string ⟨#[97, 47, 49]⟩] 9) := ⟨_, rfl⟩
  obtain ⟨W3, e3⟩ : ∃ W, W = W2.alloc (.cells #[.string ⟨#[98]⟩] 9) := ⟨_, rfl⟩
  obtain ⟨W4, e4⟩ : ∃ W, W = W3.alloc (.cells #[.string ⟨#[]⟩] 9) := ⟨_, rfl⟩
  obtain ⟨ps, hps⟩ : ∃ ps : List WV, ps = [⟨none, 0, 0, some ⟨w.heap.size, 0, none⟩, 1, 1⟩, ⟨some ⟨w.heap.size + 1, 0, none⟩, 1, 1, none, 0, 0⟩, ⟨some ⟨w.heap.size + 2, 0, none⟩, 1, 1, none, 0, 0⟩, ⟨none, 0, 0, some ⟨w.heap.size + 3, 0, none⟩, 1, 1⟩] := ⟨_, rfl⟩
  obtain ⟨W5, e5⟩ : ∃ W, W = W4.alloc (.cells (ps.flatMap wc).toArray 24) := ⟨_, rfl⟩
  have z1 : W1.heap.size = w.heap.size + 1 := by rw [e1]; simp
  have z2 : W2.heap.size = w.heap.size + 2 := by rw [e2]; simp [z1]
  have z3 : W3.heap.size = w.heap.size + 3 := by rw [e3]; simp [z2]
  have z4 : W4.heap.size = w.heap.size + 4 := by rw [e4]; simp [z3]
  have b1 : Below w.heap.size w W1 := by rw [e1]; exact (Below.refl _ _).alloc (Nat.le_refl _) _
  have b2 : Below W1.heap.size W1 W2 := by rw [e2]; exact (Below.refl _ _).alloc (Nat.le_refl _) _
  have b3 : Below W2.heap.size W2 W3 := by rw [e3]; exact (Below.refl _ _).alloc (Nat.le_refl _) _
  have b4 : Below W3.heap.size W3 W4 := by rw [e4]; exact (Below.refl _ _).alloc (Nat.le_refl _) _
  have b5 : Below W4.heap.size W4 W5 := by rw [e5]; exact (Below.refl _ _).alloc (Nat.le_refl _) _
  have q1 : W1.heap[w.heap.size]? = some (.cells [sv [97, 47]].toArray 9 (0, 0)) := by rw [e1]; exact heap_alloc_new _ _
  have q2 : W2.heap[w.heap.size + 1]? = some (.cells [sv [97, 47, 49]].toArray 9 (0, 0)) := by rw [e2, ← z1]; exact heap_alloc_new _ _
  have q3 : W3.heap[w.heap.size + 2]? = some (.cells [sv [98]].toArray 9 (0, 0)) := by rw [e3, ← z2]; exact heap_alloc_new _ _
  have q4 : W4.heap[w.heap.size + 3]? = some (.cells [sv []].toArray 9 (0, 0)) := by rw [e4, ← z3]; exact heap_alloc_new _ _
  have q5 : W5.heap[w.heap.size + 4]? = some (.cells (ps.flatMap wc).toArray 24 (0, 0)) := by rw [e5, ← z4]; exact heap_alloc_new _ _
  have g4 := b5
  have g3 := chain b4 g4
  have g2 := chain b3 g3
  have g1 := chain b2 g2
  have r1 : RdS W5 (.slice (some ⟨w.heap.size, 0, none⟩) 1 1) [[97, 47]] := rdv_block (vs := [sv [97, 47]]) ((g1.block _ (lt_of_block q1)).trans q1) rfl (by decide)
  have r2 : RdS W5 (.slice (some ⟨w.heap.size + 1, 0, none⟩) 1 1) [[97, 47, 49]] := rdv_block (vs := [sv [97, 47, 49]]) ((g2.block _ (lt_of_block q2)).trans q2) rfl (by decide)
  have r3 : RdS W5 (.slice (some ⟨w.heap.size + 2, 0, none⟩) 1 1) [[98]] := rdv_block (vs := [sv [98]]) ((g3.block _ (lt_of_block q3)).trans q3) rfl (by decide)
  have r4 : RdS W5 (.slice (some ⟨w.heap.size + 3, 0, none⟩) 1 1) [[]] := rdv_block (vs := [sv []]) ((g4.block _ (lt_of_block q4)).trans q4) rfl (by decide)
  have r0 : RdS W5 (.slice none 0 0) [] := rdv_nil _
  have BEL := Lib.hid (chain b1 g1)
  have RD := Lib.hid (show RdL W5 (.slice (some ⟨w.heap.size + 4, 0, none⟩) 4 4) ps fourL by
    have h4 : ps.length = 4 := by rw [hps]; rfl
    have hk := rdk_block wc_len q5 (by unfold maxLen; omega)
    rw [h4] at hk
    refine ⟨hk, by rw [hps]; rfl, fun i hi => ?_⟩
    have : i = 0 ∨ i = 1 ∨ i = 2 ∨ i = 3 := by unfold fourL at hi; simp at hi; omega
    rw [hps]
    rcases this with rfl | rfl | rfl | rfl
    · exact ⟨r0, r1⟩
    · exact ⟨r2, r0⟩
    · exact ⟨r3, r0⟩
    · exact ⟨r0, r4⟩)
  have HW : W5 = ((((w.alloc (.cells #[.string ⟨#[97, 47]⟩] 9)).alloc (.cells #[.string ⟨#[97, 47, 49]⟩] 9)).alloc (.cells #[.string ⟨#[98]⟩] 9)).alloc (.cells #[.string ⟨#[]⟩] 9)).alloc (.cells #[.slice none 0 0, .slice (some ⟨w.heap.size, 0, none⟩) 1 1, .slice (some ⟨w.heap.size + 1, 0, none⟩) 1 1, .slice none 0 0, .slice (some ⟨w.heap.size + 2, 0, none⟩) 1 1, .slice none 0 0, .slice none 0 0, .slice (some ⟨w.heap.size + 3, 0, none⟩) 1 1] 24) := by rw [e5, hps, e4, e3, e2, e1]; rfl
  rw [← HW]
  exact ⟨ps, RD.out, BEL.out⟩
set_option maxRecDepth 100000 in
set_option maxHeartbeats 4000000 in
theorem awake24_any (w : World) (tab : TabAt w) : Calls Tryd.prog 19 #[] w fun e w' => e = .returned (.bool true) ∧ Below w.heap.size w w' := by
  obtain ⟨ps, rd, bel⟩ := four_mem w
  have NW := Lib.hid (new_yes _ ps fourL _ (tab.below bel) rd four_sz four_all)
  have BEL := Lib.hid bel
  clear rd bel
  go_enter Tryd.func19, Tryd.ntmps19
  go_wp2_with fail
  refine NW.out.mono ?_
  rintro e u1 ⟨w1, pt, Bs, aA, cA, rfl, T, g, hs0⟩
  have T : Tb w1 u1 pt Bs aA cA 4 fourL [0, 0, 0, 0] := T
  have hsw : w.heap.size ≤ Bs := Nat.le_trans BEL.out.size hs0
  have bel := chain BEL.out g
  clear g NW hs0
  have R2 := ready_any w1 pt Bs aA cA 4 fourL [0, 0, 0, 0] _ T
  rw [show ((List.range 4).filter fun i => ([0, 0, 0, 0] : List Nat).getD i 0 == 0 && (opL fourL [0, 0, 0, 0] i).length == 0) = [0, 2] by decide +kernel] at R2
  have ha := lt_of_block T.st
  have HR2 := Lib.hid R2
  clear R2
  go_wp2_with fail
  refine HR2.out.mono ?_
  rintro e u2 ⟨aa, na, ca, rfl, oa, g⟩
  have T := T.below g
  have bel := chain bel g
  clear g HR2
  have B3 := begin_yes w1 pt Bs aA cA 4 fourL [0, 0, 0, 0] 1 (by decide) _ T
  rw [show bgC fourL [0, 0, 0, 0] 1 = 20 by decide +kernel, show bgA fourL [0, 0, 0, 0] 1 = [0, 0, 0, 0] by decide +kernel] at B3
  have HB3 := Lib.hid B3
  clear B3
  go_wp2_with fail
  refine HB3.out.mono ?_
  rintro e u3 ⟨he, T2, gg⟩
  have he : e = .returned (.int .i64 20) := he
  subst he
  have T := T2
  have oa := own_grown oa gg ha
  have bel := bel.grown gg bel.size (fun j e => by cases e; exact hsw)
  clear gg T2 HB3
  have B4 := begin_yes w1 pt Bs aA cA 4 fourL [0, 0, 0, 0] 0 (by decide) _ T
  rw [show bgC fourL [0, 0, 0, 0] 0 = 0 by decide +kernel, show bgA fourL [0, 0, 0, 0] 0 = [1, 0, 0, 0] by decide +kernel] at B4
  have HB4 := Lib.hid B4
  clear B4
  go_wp2_with fail
  refine HB4.out.mono ?_
  rintro e u4 ⟨he, T2, gg⟩
  have he : e = .returned (.int .i64 0) := he
  subst he
  have T := T2
  have oa := own_grown oa gg ha
  have bel := bel.grown gg bel.size (fun j e => by cases e; exact hsw)
  clear gg T2 HB4
  have B5 := begin_yes w1 pt Bs aA cA 4 fourL [1, 0, 0, 0] 2 (by decide) _ T
  rw [show bgC fourL [1, 0, 0, 0] 2 = 0 by decide +kernel, show bgA fourL [1, 0, 0, 0] 2 = [1, 0, 1, 0] by decide +kernel] at B5
  have HB5 := Lib.hid B5
  clear B5
  go_wp2_with fail
  refine HB5.out.mono ?_
  rintro e u5 ⟨he, T2, gg⟩
  have he : e = .returned (.int .i64 0) := he
  subst he
  have T := T2
  have oa := own_grown oa gg ha
  have bel := bel.grown gg bel.size (fun j e => by cases e; exact hsw)
  clear gg T2 HB5
  have R6 := ready_any w1 pt Bs aA cA 4 fourL [1, 0, 1, 0] _ T
  rw [show ((List.range 4).filter fun i => ([1, 0, 1, 0] : List Nat).getD i 0 == 0 && (opL fourL [1, 0, 1, 0] i).length == 0) = [] by decide +kernel] at R6
  have hb := lt_of_block T.st
  have HR6 := Lib.hid R6
  clear R6
  go_wp2_with fail
  refine HR6.out.mono ?_
  rintro e u6 ⟨ab, nb, cb, rfl, ob, g⟩
  have T := T.below g
  have oa := own_keep oa g
  have bel := chain bel g
  clear g HR6
  have W7 := waits_yes w1 pt Bs aA cA 4 fourL [1, 0, 1, 0] 3 (by decide) _ T
  rw [show opL fourL [1, 0, 1, 0] 3 = [0, 1, 2] by decide +kernel] at W7
  have hw := lt_of_block T.st
  have HW7 := Lib.hid W7
  clear W7
  go_wp2_with fail
  refine HW7.out.mono ?_
  rintro e u7 ⟨aw, nw, cw, rfl, ow, g⟩
  have T := T.below g
  have oa := own_keep oa g
  have ob := own_keep ob g
  have bel := chain bel g
  clear g HW7
  have B8 := end_yes w1 pt Bs aA cA 4 fourL [1, 0, 1, 0] 0 (by decide) _ T
  rw [show enC [1, 0, 1, 0] 0 = 0 by decide +kernel, show enA [1, 0, 1, 0] 0 = [2, 0, 1, 0] by decide +kernel] at B8
  have HB8 := Lib.hid B8
  clear B8
  go_wp2_with fail
  refine HB8.out.mono ?_
  rintro e u8 ⟨he, T2, gg⟩
  have he : e = .returned (.int .i64 0) := he
  subst he
  have T := T2
  have oa := own_grown oa gg ha
  have ob := own_grown ob gg hb
  have ow := own_grown ow gg hw
  have bel := bel.grown gg bel.size (fun j e => by cases e; exact hsw)
  clear gg T2 HB8
  have R9 := ready_any w1 pt Bs aA cA 4 fourL [2, 0, 1, 0] _ T
  rw [show ((List.range 4).filter fun i => ([2, 0, 1, 0] : List Nat).getD i 0 == 0 && (opL fourL [2, 0, 1, 0] i).length == 0) = [1] by decide +kernel] at R9
  have hc := lt_of_block T.st
  have HR9 := Lib.hid R9
  clear R9
  go_wp2_with fail
  refine HR9.out.mono ?_
  rintro e u9 ⟨ac, nc, cc, rfl, oc, g⟩
  have T := T.below g
  have oa := own_keep oa g
  have ob := own_keep ob g
  have ow := own_keep ow g
  have bel := chain bel g
  clear g HR9
  obtain ⟨-, hnb⟩ := own_len ob
  change nb = 0 at hnb
  subst hnb
  have b10 := (Below.refl u9.heap.size u9).alloc (Nat.le_refl _) (.cells #[.int .i64 0, .int .i64 2] 3)
  have q10 : RdI (u9.alloc (.cells #[.int .i64 0, .int .i64 2] 3)) (.slice (some ⟨u9.heap.size, 0, none⟩) 2 2) [0, 2] := rdv_block (vs := ([0, 2] : List Nat).map iv) (heap_alloc_new u9 (.cells #[.int .i64 0, .int .i64 2] 3)) rfl (by decide)
  have r10 : RdI (u9.alloc (.cells #[.int .i64 0, .int .i64 2] 3)) (.slice aa na ca) [0, 2] := RdI.below (own_rdv oa) b10 (Nat.le_refl _)
  have S10 := same_any _ _ [0, 2] [0, 2] _ r10 q10
  rw [show decide (([0, 2] : List Nat) = [0, 2]) = true by decide] at S10
  have HS10 := Lib.hid S10
  clear S10 r10 q10
  have HT := Lib.hid T
  have Hoa := Lib.hid oa
  have Hob := Lib.hid ob
  have How := Lib.hid ow
  have Hoc := Lib.hid oc
  have Hb10 := Lib.hid b10
  clear T oa ob ow oc b10
  go_wp2_with fail
  refine HS10.out.mono ?_
  rintro e u10 ⟨rfl, g⟩
  have T := HT.out
  have oa := Hoa.out
  have ob := Hob.out
  have ow := How.out
  have oc := Hoc.out
  have b10 := Hb10.out
  have gg := chain b10 g
  have T := T.below gg
  have oa := own_keep oa gg
  have ob := own_keep ob gg
  have ow := own_keep ow gg
  have oc := own_keep oc gg
  have bel := chain bel gg
  clear g gg HS10 b10
  have b11 := (Below.refl u10.heap.size u10).alloc (Nat.le_refl _) (.cells #[.int .i64 0, .int .i64 1, .int .i64 2] 3)
  have q11 : RdI (u10.alloc (.cells #[.int .i64 0, .int .i64 1, .int .i64 2] 3)) (.slice (some ⟨u10.heap.size, 0, none⟩) 3 3) [0, 1, 2] := rdv_block (vs := ([0, 1, 2] : List Nat).map iv) (heap_alloc_new u10 (.cells #[.int .i64 0, .int .i64 1, .int .i64 2] 3)) rfl (by decide)
  have r11 : RdI (u10.alloc (.cells #[.int .i64 0, .int .i64 1, .int .i64 2] 3)) (.slice aw nw cw) [0, 1, 2] := RdI.below (own_rdv ow) b11 (Nat.le_refl _)
  have S11 := same_any _ _ [0, 1, 2] [0, 1, 2] _ r11 q11
  rw [show decide (([0, 1, 2] : List Nat) = [0, 1, 2]) = true by decide] at S11
  have HS11 := Lib.hid S11
  clear S11 r11 q11
  have HT := Lib.hid T
  have Hoa := Lib.hid oa
  have Hob := Lib.hid ob
  have How := Lib.hid ow
  have Hoc := Lib.hid oc
  have Hb11 := Lib.hid b11
  clear T oa ob ow oc b11
  go_wp2_with fail
  refine HS11.out.mono ?_
  rintro e u11 ⟨rfl, g⟩
  have T := HT.out
  have oa := Hoa.out
  have ob := Hob.out
  have ow := How.out
  have oc := Hoc.out
  have b11 := Hb11.out
  have gg := chain b11 g
  have T := T.below gg
  have oa := own_keep oa gg
  have ob := own_keep ob gg
  have ow := own_keep ow gg
  have oc := own_keep oc gg
  have bel := chain bel gg
  clear g gg HS11 b11
  have b12 := (Below.refl u11.heap.size u11).alloc (Nat.le_refl _) (.cells #[.int .i64 1] 3)
  have q12 : RdI (u11.alloc (.cells #[.int .i64 1] 3)) (.slice (some ⟨u11.heap.size, 0, none⟩) 1 1) [1] := rdv_block (vs := ([1] : List Nat).map iv) (heap_alloc_new u11 (.cells #[.int .i64 1] 3)) rfl (by decide)
  have r12 : RdI (u11.alloc (.cells #[.int .i64 1] 3)) (.slice ac nc cc) [1] := RdI.below (own_rdv oc) b12 (Nat.le_refl _)
  have S12 := same_any _ _ [1] [1] _ r12 q12
  rw [show decide (([1] : List Nat) = [1]) = true by decide] at S12
  have HS12 := Lib.hid S12
  clear S12 r12 q12
  have HT := Lib.hid T
  have Hoa := Lib.hid oa
  have Hob := Lib.hid ob
  have How := Lib.hid ow
  have Hoc := Lib.hid oc
  have Hb12 := Lib.hid b12
  clear T oa ob ow oc b12
  go_wp2_with fail
  refine HS12.out.mono ?_
  rintro e u12 ⟨rfl, g⟩
  have T := HT.out
  have oa := Hoa.out
  have ob := Hob.out
  have ow := How.out
  have oc := Hoc.out
  have b12 := Hb12.out
  have gg := chain b12 g
  have T := T.below gg
  have oa := own_keep oa gg
  have ob := own_keep ob gg
  have ow := own_keep ow gg
  have oc := own_keep oc gg
  have bel := chain bel gg
  clear g gg HS12 b12
  have B13 := end_yes w1 pt Bs aA cA 4 fourL [2, 0, 1, 0] 3 (by decide) _ T
  rw [show enC [2, 0, 1, 0] 3 = 6 by decide +kernel, show enA [2, 0, 1, 0] 3 = [2, 0, 1, 0] by decide +kernel] at B13
  have HB13 := Lib.hid B13
  clear B13
  go_wp2_with fail
  refine HB13.out.mono ?_
  rintro e u13 ⟨he, T2, gg⟩
  have he : e = .returned (.int .i64 6) := he
  subst he
  have T := T2
  have oa := own_grown oa gg ha
  have ob := own_grown ob gg hb
  have ow := own_grown ow gg hw
  have oc := own_grown oc gg hc
  have bel := bel.grown gg bel.size (fun j e => by cases e; exact hsw)
  clear gg T2 HB13
  go_wp2_with fail
  go_ret
  exact ⟨rfl, bel⟩
end Go.Proofs.YtjmfiekgpoonjaaDoor
