/- Span: the document's Sum. Written by wip/tools/genz8.py. -/
import Derived.Test.YtbdfcgffkonbiaaGreatDoorQSSC40
import Derived.Test.YtbdfcgffkonbiaaGreatDoorQSSC45
import Derived.Test.YtbdfcgffkonbiaaGreatDoorQSSC21
namespace Go.Proofs.YtbdfcgffkonbiaaGreatDoor
open Go Go.RowKit
set_option linter.unusedVariables false
set_option linter.unusedSimpArgs false
theorem and_keep {a b : Prop} (ha : a) (hb : a → b) : a ∧ b := ⟨ha, hb ha⟩
theorem drew_heapE (X : World) : X.drew.heap = X.heap := rfl
theorem region_puts_of {ι : Type} {P : Program} {c : Code} {Q : Exit → Act → World → Prop} {a : Act} {w : World} (ds : ι → List (Option Tmp × Value)) (M : ι → World → Prop) (h : c.wp P (fun e x y => e = .normal ∧ ∃ i, x = (ds i).foldl (fun a d => a.put d.1 d.2) a ∧ M i y) a w)
    (k : ∀ i y, M i y → Q .normal ((ds i).foldl (fun a d => a.put d.1 d.2) a) y) : c.wp P Q a w :=
  Code.wp_mono (by rintro e x y ⟨rfl, i, rfl, hm⟩; exact k i y hm) h
theorem step_fit {acc i : Int} (ha : V7.fits acc) (hi : V7.fits i) (h : V7.fits (acc + i)) : IntKind.i64.wrap (acc + i) = acc + i ∧ ovB (acc + i) acc i = false := by
  unfold V7.fits at *
  refine ⟨by rw [IntKind.wrap_i64]; omega, ?_⟩
  unfold ovB
  by_cases h0 : i < 0
  · rw [decide_eq_true h0, decide_eq_true (by omega)]; rfl
  · rw [decide_eq_false h0, decide_eq_false (by omega)]; rfl
theorem step_over {acc i : Int} (ha : V7.fits acc) (hi : V7.fits i) (h : ¬ V7.fits (acc + i)) : ovB (IntKind.i64.wrap (acc + i)) acc i = true := by
  unfold V7.fits at *
  unfold ovB
  rw [IntKind.wrap_i64]
  by_cases h0 : i < 0
  · rw [decide_eq_true h0, decide_eq_false (by omega)]; rfl
  · rw [decide_eq_false h0, decide_eq_true (by omega)]; rfl
theorem sum_stays : ∀ (l : List It) (s : Int × Nat), s.2 = 8 → (l.foldl stepS s).2 = 8
  | [], s, h => h
  | x :: l, s, h => sum_stays l (stepS s x) (by unfold stepS; simp only; split; rfl; exact h)
theorem sum_take {l : List It} {j : Nat} (h : j < l.length) : sumSt (l.take (j + 1)) = stepS (sumSt (l.take j)) l[j] := by
  rw [List.take_add_one, List.getElem?_eq_getElem h]
  exact sum_snoc _ _
theorem sum_over {l : List It} {j : Nat} (h : (sumSt (l.take j)).2 = 8) : (sumSt l).2 = 8 := by
  have e : sumSt l = (l.drop j).foldl stepS (sumSt (l.take j)) := by
    unfold sumSt
    rw [← List.foldl_append, List.take_append_drop]
  rw [e]; exact sum_stays _ _ h
theorem sumK_no {l : List It} {j : Nat} (h : j < l.length) (hk : l[j].v.k ≠ 2) : sumK l = false := by
  unfold sumK
  rw [List.all_eq_false]
  exact ⟨l[j], List.getElem_mem _, by simpa using hk⟩
theorem sumK_yes {l : List It} (h : ∀ j (hj : j < l.length), l[j].v.k = 2) : sumK l = true := by
  unfold sumK
  rw [List.all_eq_true]
  intro x hx
  obtain ⟨j, hj, rfl⟩ := List.getElem_of_mem hx
  exact decide_eq_true (h j hj)
def dE (l : List It) : Nat := if sumK l = true then (sumSt l).2 else 10
def dI (l : List It) : Int := if sumK l = true then (if (sumSt l).2 = 0 then (sumSt l).1 else 0) else 0
def SumZ (w : World) (l : List It) (e : Ending) (w' : World) : Prop := e = .returned (.tuple #[.int .i64 (dI l), .int .i64 (dE l : Int)]) ∧ Below w.heap.size w w'
theorem may_num {x : It} (h : mayI x = true) (hk : x.v.k = 2) : x.v.s = [] ∧ V7.mayB ⟨2, x.v.i, []⟩ = true := by
  unfold mayI at h
  simp only [Bool.and_eq_true] at h
  have h1 := h.2.1
  unfold V7.mayB at h1
  simp only [decide_eq_true_eq, hk] at h1
  refine ⟨by simpa using h1, by unfold V7.mayB; simp⟩
theorem may_two (n : Int) : V7.mayB ⟨2, n, []⟩ = true := by unfold V7.mayB; simp
set_option maxRecDepth 100000 in
set_option maxHeartbeats 2000000 in
theorem refSum_any (v : Value) (l : List It) (w : World) (h : RdI w v l) (hm : ∀ x ∈ l, mayI x = true) (hi : ∀ x ∈ l, V7.fits x.v.i) (hl : l.length ≤ 2000) :
    Calls Tryz.prog 9 #[v] w (SumZ w l) := by
  obtain ⟨ao, cap, rfl, hc, hmx, hr0⟩ := RdK.open h
  have hr : RdI w (.slice ao l.length cap) l := hr0
  have HR := Lib.hid hr
  have HM := Lib.hid hm
  have HI := Lib.hid hi
  obtain ⟨Z, hZ⟩ : ∃ Z, Z = SumZ w l := ⟨_, rfl⟩
  rw [← hZ]
  have HZ := Lib.hid hZ
  have RI := Lib.hid (fun W => V7.refInt_any 0 W)
  clear h hr hr0 hm hi hZ
  go_enter Tryz.func9, Tryz.ntmps9
  go_wp2_with fail
  go_loopw [4] (fun i wr => ∃ (j : Nat), j ≤ l.length ∧ i = .int .i64 (j : Int) ∧ Hid (∀ q (hq : q < l.length), q < j → l[q].v.k = 2) ∧ Below w.heap.size w wr) (fun i _ => 2100 - (intOf i).toNat)
  case atStart => exact ⟨0, Nat.zero_le _, rfl, Lib.hid (fun q _ h => by omega), Below.refl _ _⟩
  case round =>
    obtain ⟨j, hj, rfl, HK, bel0⟩ := hrel
    by_cases hlt : j < l.length
    · obtain ⟨b, off, rfl, hb, c0, c1, c2, c3, c4⟩ := rdi_cells (HR.out.below bel0 (Nat.le_refl _)) j hlt
      obtain ⟨x, hx⟩ : ∃ x, x = l[j]'hlt := ⟨_, rfl⟩
      rw [← hx] at c0 c1 c2 c3 c4
      by_cases hk : x.v.k = 2
      · have t1 : (x.v.k != 2) = false := by rw [hk]; rfl
        have HK2 := Lib.hid (show ∀ q (hq : q < l.length), q < j + 1 → l[q].v.k = 2 from fun q hq h9 => by
          rcases Nat.lt_or_eq_of_le (show q ≤ j by omega) with h8 | h8
          · exact HK.out q hq h8
          · subst h8; rw [← hx]; exact hk)
        clear hx hk
        go_wp2_with fail
        exact ⟨⟨j + 1, by omega, by push_cast; rfl, HK2, bel0⟩, by simp [intOf]; omega⟩
      · have t1 : (x.v.k != 2) = true := by simpa using hk
        have E := Lib.hid (show sumK l = false from sumK_no hlt (by rw [← hx]; exact hk))
        clear hx hk
        go_wp2_with fail
        show Z _ _
        rw [HZ.out]
        unfold SumZ dI dE
        rw [E.out]
        exact ⟨rfl, bel0⟩
    · obtain rfl : j = l.length := by omega
      have HKY := Lib.hid (show ∀ q (hq : q < l.length), l[q].v.k = 2 from fun q hq => HK.out q hq hq)
      clear HK
      go_wp2_with fail
      refine (RI.out _).mono ?_
      rintro e w1 ⟨rfl, g1⟩
      have q5 := heap_alloc_new w1 (.cells #[.int .i64 2, .int .i64 0, .string (str [])] 46)
      have hX := (Below.refl w1.heap.size w1).alloc (Nat.le_refl _) (.cells #[.int .i64 2, .int .i64 0, .string (str [])] 46)
      have G1 := Lib.hid (chain bel0 g1)
      clear g1 bel0
      go_wp2_with fail
      go_loopw [6] (fun i wr => ∃ (j : Nat) (acc : Int), j ≤ l.length ∧ i = .int .i64 (j : Int) ∧ Hid (sumSt (l.take j) = (acc, 0)) ∧ V7.fits acc ∧ wr.heap[w1.heap.size]? = some (.cells #[.int .i64 2, .int .i64 acc, .string (str [])] 46 (0, 0)) ∧ Below w1.heap.size w1 wr) (fun i _ => 2100 - (intOf i).toNat)
      case atStart => exact ⟨0, 0, Nat.zero_le _, rfl, Lib.hid (by rw [List.take_zero]; rfl), by unfold V7.fits; omega, q5, hX⟩
      case round =>
        obtain ⟨j, acc, hj, rfl, HS, hfa, q5, hX⟩ := hrel
        have bel := chain G1.out hX
        by_cases hlt : j < l.length
        · obtain ⟨b, off, rfl, hb, c0, c1, c2, c3, c4⟩ := rdi_cells (HR.out.below bel (Nat.le_refl _)) j hlt
          obtain ⟨x, hx⟩ : ∃ x, x = l[j]'hlt := ⟨_, rfl⟩
          rw [← hx] at c0 c1 c2 c3 c4
          have hk : x.v.k = 2 := by rw [hx]; exact HKY.out j hlt
          have hmx9 : x ∈ l := by rw [hx]; exact List.getElem_mem _
          obtain ⟨hs0, -⟩ := may_num (HM.out x hmx9) hk
          obtain ⟨xi, hxi⟩ : ∃ n, n = x.v.i := ⟨_, rfl⟩
          have hfi : V7.fits xi := by rw [hxi]; exact HI.out x hmx9
          rw [hk] at c1
          rw [hs0] at c3
          rw [← hxi] at c2
          have HST0 := sum_take hlt
          rw [HS.out, ← hx] at HST0
          unfold stepS at HST0
          simp only [← hxi] at HST0
          have MM1 := fun W => (show Calls Tryz.prog 43 #[.agg #[.int .i64 2, .int .i64 acc, .string (str [])]] W fun e w' => e = .returned (.bool true) ∧ Below W.heap.size W w' by have := V7.refMay_any 2 acc [] W (by simp [maxLen]); rw [may_two] at this; exact this)
          have MM2 := fun W => (show Calls Tryz.prog 43 #[.agg #[.int .i64 2, .int .i64 xi, .string (str [])]] W fun e w' => e = .returned (.bool true) ∧ Below W.heap.size W w' by have := V7.refMay_any 2 xi [] W (by simp [maxLen]); rw [may_two] at this; exact this)
          clear hx hk hs0 hmx9 hxi
          by_cases hf : V7.fits (acc + xi)
          · obtain ⟨e1, e2⟩ := step_fit hfa hfi hf
            rw [e1, e2] at HST0
            obtain ⟨a2, ha2⟩ : ∃ a, a = acc + xi := ⟨_, rfl⟩
            have TW := Lib.hid (fun W => (show Calls Tryz.prog 23 #[.int .i64 0, .agg #[.int .i64 2, .int .i64 acc, .string (str [])], .agg #[.int .i64 2, .int .i64 xi, .string (str [])]] W fun e w' => e = .returned (.tuple #[.agg #[.int .i64 2, .int .i64 a2, .string (str [])], .int .i64 0]) ∧ Below W.heap.size W w' from V7.two_sum_yes a2 2 acc [] 2 xi [] W MM1 MM2 (fun w => by rw [ha2]; exact V7.sum_yes acc xi hfa hfi hf w) rfl rfl))
            have HST := Lib.hid (show sumSt (l.take (j + 1)) = (a2, 0) by rw [HST0, ha2]; rfl)
            rw [← ha2] at hf
            have hfa2 := hf
            clear hfa hfi hf e1 e2 HST0 MM1 MM2 ha2
            go_wp2_with fail
            refine region_puts_of (fun B9 : Nat => [(some 30, .agg #[.int .i64 2, .int .i64 acc, .string (str [])]), (some 31, .slice (some ⟨b, off, none⟩) l.length cap), (some 32, .int .i64 (j : Int)), (some 33, .pointer (some ⟨b, off + j * 5, none⟩)), (some 34, .pointer (some ⟨b, off + j * 5 + 1, none⟩)), (some 35, .agg #[.int .i64 2, .int .i64 xi, .string (str [])]), (some 36, .tuple #[.agg #[.int .i64 2, .int .i64 a2, .string (str [])], .int .i64 0]), (some 29, .tuple #[.agg #[.int .i64 2, .int .i64 a2, .string (str [])], .int .i64 0]), (some 37, .agg #[.int .i64 2, .int .i64 a2, .string (str [])]), (some 38, .int .i64 0), (some 7, .pointer (some ⟨B9, 0, none⟩)), (some 8, .int .i64 0)]) (fun B9 y => y.heap[B9]? = some (.cells #[.int .i64 2, .int .i64 a2, .string (str [])] 46 (0, 0)) ∧ Below wr.heap.size wr y ∧ wr.heap.size ≤ B9) ?_ ?_
            · have hS : Below wr.heap.size wr wr.drew := (Below.refl _ _).drew
              refine gs_start (S := (fun W => Below wr.heap.size wr W)) (by kernel_rfl) ?_
              refine gs_take (i := 0) (d := (some 30)) (v := ?_) rfl rfl (by kernel_rfl) (fun _ _ _ h => nomatch h.1) (by rfl) hS (fun w' hb' => ?_) ?_
              rotate_left
              · have zq := (hb'.block _ (lt_of_block q5)).trans q5; have z0 := block_cell zq 0; have z1 := block_cell zq 1; have z2 := block_cell zq 2; (try go_simp); (try with_reducible rfl)
              try simp only [Act.put, List.setIfInBounds_toArray, List.set_cons_zero, List.set_cons_succ]
              refine gs_take (i := 1) (d := (some 31)) (v := ?_) rfl rfl (by kernel_rfl) (fun _ _ _ h => nomatch h.1) (by rfl) hS (fun w' hb' => ?_) ?_
              rotate_left
              · (try go_simp); (try with_reducible rfl)
              try simp only [Act.put, List.setIfInBounds_toArray, List.set_cons_zero, List.set_cons_succ]
              refine gs_take (i := 2) (d := (some 32)) (v := ?_) rfl rfl (by kernel_rfl) (fun _ _ _ h => nomatch h.1) (by rfl) hS (fun w' hb' => ?_) ?_
              rotate_left
              · (try go_simp); (try with_reducible rfl)
              try simp only [Act.put, List.setIfInBounds_toArray, List.set_cons_zero, List.set_cons_succ]
              refine gs_take (i := 3) (d := (some 33)) (v := ?_) rfl rfl (by kernel_rfl) (fun _ _ _ h => nomatch h.1) (by rfl) hS (fun w' hb' => ?_) ?_
              rotate_left
              · (try go_simp); (try with_reducible rfl)
              try simp only [Act.put, List.setIfInBounds_toArray, List.set_cons_zero, List.set_cons_succ]
              refine gs_take (i := 4) (d := (some 34)) (v := ?_) rfl rfl (by kernel_rfl) (fun _ _ _ h => nomatch h.1) (by rfl) hS (fun w' hb' => ?_) ?_
              rotate_left
              · (try go_simp); (try with_reducible rfl)
              try simp only [Act.put, List.setIfInBounds_toArray, List.set_cons_zero, List.set_cons_succ]
              refine gs_take (i := 5) (d := (some 35)) (v := ?_) rfl rfl (by kernel_rfl) (fun _ _ _ h => nomatch h.1) (by rfl) hS (fun w' hb' => ?_) ?_
              rotate_left
              · have z1 := (hb'.cell (p := ⟨b, off + j * 5 + 1, none⟩) hb).trans c1; have z2 := (hb'.cell (p := ⟨b, off + j * 5 + 2, none⟩) hb).trans c2; have z3 := (hb'.cell (p := ⟨b, off + j * 5 + 3, none⟩) hb).trans c3; (try go_simp); (try with_reducible rfl)
              try simp only [Act.put, List.setIfInBounds_toArray, List.set_cons_zero, List.set_cons_succ]
              refine gs_run2 (i := 6) (k := 10) rfl rfl (by kernel_rfl) (by rfl) (by rfl) (fun K hK => ?_) (fun K hK => ?_)
              · skip
                go_simp
                refine (TW.out _).mono ?_
                rintro e wc ⟨rfl, g⟩
                have hS2 := hS.trans (g.mono hS.size)
                have hcs := hS2.size
                have hG := hS2
                refine hK _ _ ⟨hS2, ?_⟩
                clear hK K g hS
                have hS := hS2
                clear hS2
                try simp only [Act.put, List.setIfInBounds_toArray, List.set_cons_zero, List.set_cons_succ]
                refine gs_take (i := 7) (d := (some 29)) (v := ?_) rfl rfl (by kernel_rfl) (fun _ _ _ h => nomatch h.1) (by rfl) hS (fun w' hb' => ?_) ?_
                rotate_left
                · (try go_simp); (try with_reducible rfl)
                try simp only [Act.put, List.setIfInBounds_toArray, List.set_cons_zero, List.set_cons_succ]
                refine gs_take (i := 8) (d := (some 37)) (v := ?_) rfl rfl (by kernel_rfl) (fun _ _ _ h => nomatch h.1) (by rfl) hS (fun w' hb' => ?_) ?_
                rotate_left
                · (try go_simp); (try with_reducible rfl)
                try simp only [Act.put, List.setIfInBounds_toArray, List.set_cons_zero, List.set_cons_succ]
                refine gs_take (i := 9) (d := (some 38)) (v := ?_) rfl rfl (by kernel_rfl) (fun _ _ _ h => nomatch h.1) (by rfl) hS (fun w' hb' => ?_) ?_
                rotate_left
                · (try go_simp); (try with_reducible rfl)
                try simp only [Act.put, List.setIfInBounds_toArray, List.set_cons_zero, List.set_cons_succ]
                refine gs_run (i := 10) rfl (by kernel_rfl) (by rfl) (fun K hK => ?_)
                go_simp
                have hS2 := hS.alloc hS.size (.cells #[.int .i64 0, .int .i64 0, .string (str [])] 46)
                have qz := heap_alloc_new wc (.cells #[.int .i64 0, .int .i64 0, .string (str [])] 46)
                refine hK _ _ ⟨hS2, ?_⟩
                clear hK K hS
                have hS := hS2
                clear hS2
                try simp only [Act.put, List.setIfInBounds_toArray, List.set_cons_zero, List.set_cons_succ]
                refine gs_run (i := 11) rfl (by kernel_rfl) (by rfl) (fun K hK => ?_)
                go_simp
                refine hK _ _ (and_keep (hG.alloc hG.size _) fun hS2 => ?_)
                clear hK K hS
                have hS := hS2
                clear hS2
                try simp only [Act.put, List.setIfInBounds_toArray, List.set_cons_zero, List.set_cons_succ]
                refine gs_take (i := 12) (d := (some 8)) (v := ?_) rfl rfl (by kernel_rfl) (fun _ _ _ h => nomatch h.1) (by rfl) hS (fun w' hb' => ?_) ?_
                rotate_left
                · (try go_simp); (try with_reducible rfl)
                try simp only [Act.put, List.setIfInBounds_toArray, List.set_cons_zero, List.set_cons_succ]
                refine gs_done (by kernel_rfl) ?_
                refine ⟨rfl, wc.heap.size, ?_, ?_, hS, hcs⟩
                · simp only [List.foldl_cons, List.foldl_nil, Act.put, List.setIfInBounds_toArray, List.set_cons_zero, List.set_cons_succ]
                · first | exact heap_alloc_new wc (.cells #[.int .i64 2, .int .i64 a2, .string (str [])] 46) | (simp only [drew_heapE]; exact heap_alloc_new wc (.cells #[.int .i64 2, .int .i64 a2, .string (str [])] 46))
              · skip
                go_simp
                have hS2 := hS.alloc hS.size (.cells #[.int .i64 0, .int .i64 0, .string (str [])] 46)
                have qz := heap_alloc_new wr (.cells #[.int .i64 0, .int .i64 0, .string (str [])] 46)
                refine hK _ _ ⟨hS2, ?_⟩
                clear hK K hS
                have hS := hS2
                clear hS2
                try simp only [Act.put, List.setIfInBounds_toArray, List.set_cons_zero, List.set_cons_succ]
                refine gs_run (i := 6) rfl (by kernel_rfl) (by rfl) (fun K hK => ?_)
                go_simp
                refine (TW.out _).mono ?_
                rintro e wc ⟨rfl, g⟩
                have qz := (g.block _ (lt_of_block qz)).trans qz
                have hS2 := hS.trans (g.mono hS.size)
                have hcs := hS2.size
                have hG := hS2
                refine hK _ _ ⟨hS2, ?_⟩
                clear hK K g hS
                have hS := hS2
                clear hS2
                try simp only [Act.put, List.setIfInBounds_toArray, List.set_cons_zero, List.set_cons_succ]
                refine gs_take (i := 7) (d := (some 29)) (v := ?_) rfl rfl (by kernel_rfl) (fun _ _ _ h => nomatch h.1) (by rfl) hS (fun w' hb' => ?_) ?_
                rotate_left
                · (try go_simp); (try with_reducible rfl)
                try simp only [Act.put, List.setIfInBounds_toArray, List.set_cons_zero, List.set_cons_succ]
                refine gs_take (i := 8) (d := (some 37)) (v := ?_) rfl rfl (by kernel_rfl) (fun _ _ _ h => nomatch h.1) (by rfl) hS (fun w' hb' => ?_) ?_
                rotate_left
                · (try go_simp); (try with_reducible rfl)
                try simp only [Act.put, List.setIfInBounds_toArray, List.set_cons_zero, List.set_cons_succ]
                refine gs_take (i := 9) (d := (some 38)) (v := ?_) rfl rfl (by kernel_rfl) (fun _ _ _ h => nomatch h.1) (by rfl) hS (fun w' hb' => ?_) ?_
                rotate_left
                · (try go_simp); (try with_reducible rfl)
                try simp only [Act.put, List.setIfInBounds_toArray, List.set_cons_zero, List.set_cons_succ]
                refine gs_run (i := 11) rfl (by kernel_rfl) (by rfl) (fun K hK => ?_)
                have z0 := block_cell qz 0
                have z1 := block_cell qz 1
                have z2 := block_cell qz 2
                have zf := fun i => block_frozen qz i
                go_simp
                refine hK _ _ (and_keep (((hS.setCell (p := ⟨wr.heap.size, 0, none⟩) (Nat.le_refl _) (.int .i64 2)).setCell (p := ⟨wr.heap.size, 1, none⟩) (Nat.le_refl _) (.int .i64 a2)).setCell (p := ⟨wr.heap.size, 2, none⟩) (Nat.le_refl _) (.string (str []))) fun hS2 => ?_)
                clear hK K hS z0 z1 z2 zf
                have hS := hS2
                clear hS2
                try simp only [Act.put, List.setIfInBounds_toArray, List.set_cons_zero, List.set_cons_succ]
                refine gs_take (i := 12) (d := (some 8)) (v := ?_) rfl rfl (by kernel_rfl) (fun _ _ _ h => nomatch h.1) (by rfl) hS (fun w' hb' => ?_) ?_
                rotate_left
                · (try go_simp); (try with_reducible rfl)
                try simp only [Act.put, List.setIfInBounds_toArray, List.set_cons_zero, List.set_cons_succ]
                refine gs_done (by kernel_rfl) ?_
                refine ⟨rfl, wr.heap.size, ?_, ?_, hS, Nat.le_refl _⟩
                · simp only [List.foldl_cons, List.foldl_nil, Act.put, List.setIfInBounds_toArray, List.set_cons_zero, List.set_cons_succ]
                · first | exact (set_at (i := 2) (u := .string (str [])) (set_at (i := 1) (u := .int .i64 a2) (set_at (i := 0) (u := .int .i64 2) qz))) | (simp only [drew_heapE]; exact (set_at (i := 2) (u := .string (str [])) (set_at (i := 1) (u := .int .i64 a2) (set_at (i := 0) (u := .int .i64 2) qz))))
            rintro B7 y ⟨q7, gy, l7⟩
            simp only [List.foldl_cons, List.foldl_nil, Act.put, List.setIfInBounds_toArray, List.set_cons_zero, List.set_cons_succ]
            have q5 := (gy.block _ (lt_of_block q5)).trans q5
            have hX := chain hX gy
            have z0 := block_cell q7 0
            have z1 := block_cell q7 1
            have z2 := block_cell q7 2
            have y0 := block_cell q5 0
            have y1 := block_cell q5 1
            have y2 := block_cell q5 2
            have yf := fun i => block_frozen q5 i
            have Q5 := Lib.hid q5
            have HX := Lib.hid hX
            clear q5 hX q7 gy
            go_wp2_with fail
            exact ⟨⟨j + 1, a2, by omega, by push_cast; rfl, HST, hfa2, set_at (i := 2) (u := .string (str [])) (set_at (i := 1) (u := .int .i64 a2) (set_at (i := 0) (u := .int .i64 2) Q5.out)), ((HX.out.setCell (p := ⟨w1.heap.size, 0, none⟩) (Nat.le_refl _) (.int .i64 2)).setCell (p := ⟨w1.heap.size, 1, none⟩) (Nat.le_refl _) (.int .i64 a2)).setCell (p := ⟨w1.heap.size, 2, none⟩) (Nat.le_refl _) (.string (str []))⟩, by simp [intOf]; omega⟩
          · have e2 := step_over hfa hfi hf
            rw [e2] at HST0
            have TW := Lib.hid (fun W => (show Calls Tryz.prog 23 #[.int .i64 0, .agg #[.int .i64 2, .int .i64 acc, .string (str [])], .agg #[.int .i64 2, .int .i64 xi, .string (str [])]] W fun e w' => e = .returned (.tuple #[.agg #[.int .i64 0, .int .i64 0, .string (str [])], .int .i64 8]) ∧ Below W.heap.size W w' from V7.two_sum_no 0 2 acc [] 2 xi [] W MM1 MM2 (fun w => V7.sum_no acc xi hfa hfi hf w) rfl rfl))
            have HE := Lib.hid (show (sumSt l).2 = 8 from sum_over (j := j + 1) (by rw [HST0]; rfl))
            clear hfa hfi hf e2 HST0 MM1 MM2
            go_wp2_with fail
            refine region_puts_of (fun B9 : Nat => [(some 30, .agg #[.int .i64 2, .int .i64 acc, .string (str [])]), (some 31, .slice (some ⟨b, off, none⟩) l.length cap), (some 32, .int .i64 (j : Int)), (some 33, .pointer (some ⟨b, off + j * 5, none⟩)), (some 34, .pointer (some ⟨b, off + j * 5 + 1, none⟩)), (some 35, .agg #[.int .i64 2, .int .i64 xi, .string (str [])]), (some 36, .tuple #[.agg #[.int .i64 0, .int .i64 0, .string (str [])], .int .i64 8]), (some 29, .tuple #[.agg #[.int .i64 0, .int .i64 0, .string (str [])], .int .i64 8]), (some 37, .agg #[.int .i64 0, .int .i64 0, .string (str [])]), (some 38, .int .i64 8), (some 7, .pointer (some ⟨B9, 0, none⟩)), (some 8, .int .i64 8)]) (fun B9 y => y.heap[B9]? = some (.cells #[.int .i64 0, .int .i64 0, .string (str [])] 46 (0, 0)) ∧ Below wr.heap.size wr y ∧ wr.heap.size ≤ B9) ?_ ?_
            · have hS : Below wr.heap.size wr wr.drew := (Below.refl _ _).drew
              refine gs_start (S := (fun W => Below wr.heap.size wr W)) (by kernel_rfl) ?_
              refine gs_take (i := 0) (d := (some 30)) (v := ?_) rfl rfl (by kernel_rfl) (fun _ _ _ h => nomatch h.1) (by rfl) hS (fun w' hb' => ?_) ?_
              rotate_left
              · have zq := (hb'.block _ (lt_of_block q5)).trans q5; have z0 := block_cell zq 0; have z1 := block_cell zq 1; have z2 := block_cell zq 2; (try go_simp); (try with_reducible rfl)
              try simp only [Act.put, List.setIfInBounds_toArray, List.set_cons_zero, List.set_cons_succ]
              refine gs_take (i := 1) (d := (some 31)) (v := ?_) rfl rfl (by kernel_rfl) (fun _ _ _ h => nomatch h.1) (by rfl) hS (fun w' hb' => ?_) ?_
              rotate_left
              · (try go_simp); (try with_reducible rfl)
              try simp only [Act.put, List.setIfInBounds_toArray, List.set_cons_zero, List.set_cons_succ]
              refine gs_take (i := 2) (d := (some 32)) (v := ?_) rfl rfl (by kernel_rfl) (fun _ _ _ h => nomatch h.1) (by rfl) hS (fun w' hb' => ?_) ?_
              rotate_left
              · (try go_simp); (try with_reducible rfl)
              try simp only [Act.put, List.setIfInBounds_toArray, List.set_cons_zero, List.set_cons_succ]
              refine gs_take (i := 3) (d := (some 33)) (v := ?_) rfl rfl (by kernel_rfl) (fun _ _ _ h => nomatch h.1) (by rfl) hS (fun w' hb' => ?_) ?_
              rotate_left
              · (try go_simp); (try with_reducible rfl)
              try simp only [Act.put, List.setIfInBounds_toArray, List.set_cons_zero, List.set_cons_succ]
              refine gs_take (i := 4) (d := (some 34)) (v := ?_) rfl rfl (by kernel_rfl) (fun _ _ _ h => nomatch h.1) (by rfl) hS (fun w' hb' => ?_) ?_
              rotate_left
              · (try go_simp); (try with_reducible rfl)
              try simp only [Act.put, List.setIfInBounds_toArray, List.set_cons_zero, List.set_cons_succ]
              refine gs_take (i := 5) (d := (some 35)) (v := ?_) rfl rfl (by kernel_rfl) (fun _ _ _ h => nomatch h.1) (by rfl) hS (fun w' hb' => ?_) ?_
              rotate_left
              · have z1 := (hb'.cell (p := ⟨b, off + j * 5 + 1, none⟩) hb).trans c1; have z2 := (hb'.cell (p := ⟨b, off + j * 5 + 2, none⟩) hb).trans c2; have z3 := (hb'.cell (p := ⟨b, off + j * 5 + 3, none⟩) hb).trans c3; (try go_simp); (try with_reducible rfl)
              try simp only [Act.put, List.setIfInBounds_toArray, List.set_cons_zero, List.set_cons_succ]
              refine gs_run2 (i := 6) (k := 10) rfl rfl (by kernel_rfl) (by rfl) (by rfl) (fun K hK => ?_) (fun K hK => ?_)
              · skip
                go_simp
                refine (TW.out _).mono ?_
                rintro e wc ⟨rfl, g⟩
                have hS2 := hS.trans (g.mono hS.size)
                have hcs := hS2.size
                have hG := hS2
                refine hK _ _ ⟨hS2, ?_⟩
                clear hK K g hS
                have hS := hS2
                clear hS2
                try simp only [Act.put, List.setIfInBounds_toArray, List.set_cons_zero, List.set_cons_succ]
                refine gs_take (i := 7) (d := (some 29)) (v := ?_) rfl rfl (by kernel_rfl) (fun _ _ _ h => nomatch h.1) (by rfl) hS (fun w' hb' => ?_) ?_
                rotate_left
                · (try go_simp); (try with_reducible rfl)
                try simp only [Act.put, List.setIfInBounds_toArray, List.set_cons_zero, List.set_cons_succ]
                refine gs_take (i := 8) (d := (some 37)) (v := ?_) rfl rfl (by kernel_rfl) (fun _ _ _ h => nomatch h.1) (by rfl) hS (fun w' hb' => ?_) ?_
                rotate_left
                · (try go_simp); (try with_reducible rfl)
                try simp only [Act.put, List.setIfInBounds_toArray, List.set_cons_zero, List.set_cons_succ]
                refine gs_take (i := 9) (d := (some 38)) (v := ?_) rfl rfl (by kernel_rfl) (fun _ _ _ h => nomatch h.1) (by rfl) hS (fun w' hb' => ?_) ?_
                rotate_left
                · (try go_simp); (try with_reducible rfl)
                try simp only [Act.put, List.setIfInBounds_toArray, List.set_cons_zero, List.set_cons_succ]
                refine gs_run (i := 10) rfl (by kernel_rfl) (by rfl) (fun K hK => ?_)
                go_simp
                have hS2 := hS.alloc hS.size (.cells #[.int .i64 0, .int .i64 0, .string (str [])] 46)
                have qz := heap_alloc_new wc (.cells #[.int .i64 0, .int .i64 0, .string (str [])] 46)
                refine hK _ _ ⟨hS2, ?_⟩
                clear hK K hS
                have hS := hS2
                clear hS2
                try simp only [Act.put, List.setIfInBounds_toArray, List.set_cons_zero, List.set_cons_succ]
                refine gs_run (i := 11) rfl (by kernel_rfl) (by rfl) (fun K hK => ?_)
                go_simp
                refine hK _ _ (and_keep (hG.alloc hG.size _) fun hS2 => ?_)
                clear hK K hS
                have hS := hS2
                clear hS2
                try simp only [Act.put, List.setIfInBounds_toArray, List.set_cons_zero, List.set_cons_succ]
                refine gs_take (i := 12) (d := (some 8)) (v := ?_) rfl rfl (by kernel_rfl) (fun _ _ _ h => nomatch h.1) (by rfl) hS (fun w' hb' => ?_) ?_
                rotate_left
                · (try go_simp); (try with_reducible rfl)
                try simp only [Act.put, List.setIfInBounds_toArray, List.set_cons_zero, List.set_cons_succ]
                refine gs_done (by kernel_rfl) ?_
                refine ⟨rfl, wc.heap.size, ?_, ?_, hS, hcs⟩
                · simp only [List.foldl_cons, List.foldl_nil, Act.put, List.setIfInBounds_toArray, List.set_cons_zero, List.set_cons_succ]
                · first | exact heap_alloc_new wc (.cells #[.int .i64 0, .int .i64 0, .string (str [])] 46) | (simp only [drew_heapE]; exact heap_alloc_new wc (.cells #[.int .i64 0, .int .i64 0, .string (str [])] 46))
              · skip
                go_simp
                have hS2 := hS.alloc hS.size (.cells #[.int .i64 0, .int .i64 0, .string (str [])] 46)
                have qz := heap_alloc_new wr (.cells #[.int .i64 0, .int .i64 0, .string (str [])] 46)
                refine hK _ _ ⟨hS2, ?_⟩
                clear hK K hS
                have hS := hS2
                clear hS2
                try simp only [Act.put, List.setIfInBounds_toArray, List.set_cons_zero, List.set_cons_succ]
                refine gs_run (i := 6) rfl (by kernel_rfl) (by rfl) (fun K hK => ?_)
                go_simp
                refine (TW.out _).mono ?_
                rintro e wc ⟨rfl, g⟩
                have qz := (g.block _ (lt_of_block qz)).trans qz
                have hS2 := hS.trans (g.mono hS.size)
                have hcs := hS2.size
                have hG := hS2
                refine hK _ _ ⟨hS2, ?_⟩
                clear hK K g hS
                have hS := hS2
                clear hS2
                try simp only [Act.put, List.setIfInBounds_toArray, List.set_cons_zero, List.set_cons_succ]
                refine gs_take (i := 7) (d := (some 29)) (v := ?_) rfl rfl (by kernel_rfl) (fun _ _ _ h => nomatch h.1) (by rfl) hS (fun w' hb' => ?_) ?_
                rotate_left
                · (try go_simp); (try with_reducible rfl)
                try simp only [Act.put, List.setIfInBounds_toArray, List.set_cons_zero, List.set_cons_succ]
                refine gs_take (i := 8) (d := (some 37)) (v := ?_) rfl rfl (by kernel_rfl) (fun _ _ _ h => nomatch h.1) (by rfl) hS (fun w' hb' => ?_) ?_
                rotate_left
                · (try go_simp); (try with_reducible rfl)
                try simp only [Act.put, List.setIfInBounds_toArray, List.set_cons_zero, List.set_cons_succ]
                refine gs_take (i := 9) (d := (some 38)) (v := ?_) rfl rfl (by kernel_rfl) (fun _ _ _ h => nomatch h.1) (by rfl) hS (fun w' hb' => ?_) ?_
                rotate_left
                · (try go_simp); (try with_reducible rfl)
                try simp only [Act.put, List.setIfInBounds_toArray, List.set_cons_zero, List.set_cons_succ]
                refine gs_run (i := 11) rfl (by kernel_rfl) (by rfl) (fun K hK => ?_)
                have z0 := block_cell qz 0
                have z1 := block_cell qz 1
                have z2 := block_cell qz 2
                have zf := fun i => block_frozen qz i
                go_simp
                refine hK _ _ (and_keep (((hS.setCell (p := ⟨wr.heap.size, 0, none⟩) (Nat.le_refl _) (.int .i64 0)).setCell (p := ⟨wr.heap.size, 1, none⟩) (Nat.le_refl _) (.int .i64 0)).setCell (p := ⟨wr.heap.size, 2, none⟩) (Nat.le_refl _) (.string (str []))) fun hS2 => ?_)
                clear hK K hS z0 z1 z2 zf
                have hS := hS2
                clear hS2
                try simp only [Act.put, List.setIfInBounds_toArray, List.set_cons_zero, List.set_cons_succ]
                refine gs_take (i := 12) (d := (some 8)) (v := ?_) rfl rfl (by kernel_rfl) (fun _ _ _ h => nomatch h.1) (by rfl) hS (fun w' hb' => ?_) ?_
                rotate_left
                · (try go_simp); (try with_reducible rfl)
                try simp only [Act.put, List.setIfInBounds_toArray, List.set_cons_zero, List.set_cons_succ]
                refine gs_done (by kernel_rfl) ?_
                refine ⟨rfl, wr.heap.size, ?_, ?_, hS, Nat.le_refl _⟩
                · simp only [List.foldl_cons, List.foldl_nil, Act.put, List.setIfInBounds_toArray, List.set_cons_zero, List.set_cons_succ]
                · first | exact (set_at (i := 2) (u := .string (str [])) (set_at (i := 1) (u := .int .i64 0) (set_at (i := 0) (u := .int .i64 0) qz))) | (simp only [drew_heapE]; exact (set_at (i := 2) (u := .string (str [])) (set_at (i := 1) (u := .int .i64 0) (set_at (i := 0) (u := .int .i64 0) qz))))
            rintro B7 y ⟨q7, gy, l7⟩
            simp only [List.foldl_cons, List.foldl_nil, Act.put, List.setIfInBounds_toArray, List.set_cons_zero, List.set_cons_succ]
            have hX := chain hX gy
            have HX := Lib.hid hX
            clear hX q7 gy
            go_wp2_with fail
            show Z _ _
            rw [HZ.out]
            unfold SumZ dI dE
            rw [sumK_yes HKY.out, if_pos rfl, if_pos rfl, HE.out]
            exact ⟨rfl, chain G1.out HX.out⟩
        · obtain rfl : j = l.length := by omega
          have HE := Lib.hid (show sumSt l = (acc, 0) by have := HS.out; rwa [List.take_length] at this)
          have y1 := block_cell q5 1
          clear HS
          go_wp2_with fail
          show Z _ _
          rw [HZ.out]
          unfold SumZ dI dE
          rw [sumK_yes HKY.out, if_pos rfl, if_pos rfl, HE.out]
          exact ⟨rfl, bel⟩
end Go.Proofs.YtbdfcgffkonbiaaGreatDoor
