/- New, by the ring. -/
import Derived.Test.YtojjpnkdblaidaaR4C
namespace Go.Proofs.Ytojjpnkdblaidaa
open Go Go.RowKit Go.Maps Go.MapKept
set_option linter.unusedVariables false
set_option linter.unusedSimpArgs false
def iv (x : Int) : Value := .int .i64 x
/-- May New be asked? -/
def mayN (parties : Int) (xs : List Int) : Bool := decide (1 ≤ parties ∧ parties ≤ 64) && xs.all (fun p => decide (0 ≤ p) && decide (p < parties))
theorem mayN_nat (n : Nat) (xs : List Int) : mayN n xs = (decide (1 ≤ n ∧ n ≤ 64) && xs.all (isB n)) := by
  unfold mayN isB
  congr 1
  simp only [decide_eq_decide]
  omega
def zeroR : Array Value := ⟨.int .i64 0 :: (List.replicate 64 (.bool false) ++ [.map none, .slice none 0 0])⟩
theorem zero_run (w : World) : (zeroValue 55).run Try.prog w = .ok (.agg zeroR) w := by kernel_rfl
theorem zeroR_size : zeroR.size = 67 := by simp [zeroR]
theorem zeroR_ne : zeroR ≠ #[] := by simp [zeroR]
theorem zeroR_rc (n M : Nat) : RC ((zeroR.setIfInBounds 0 (.int .i64 (n : Int))).setIfInBounds 65 (.map (some M))) n (fun _ => false) M (.slice none 0 0) := by
  refine ⟨by simp [zeroR], by simp [zeroR], ?_, by simp [zeroR], by simp [zeroR]⟩
  intro p hp
  rw [Array.getElem?_setIfInBounds_ne (by omega), Array.getElem?_setIfInBounds_ne (by omega)]
  have e : zeroR[1 + p]? = (.int .i64 0 :: (List.replicate 64 (.bool false) ++ [.map none, .slice none 0 0]))[1 + p]? := by simp [zeroR]
  rw [e, Nat.add_comm, List.getElem?_cons_succ, List.getElem?_append_left (by simpa using hp), List.getElem?_replicate, if_pos hp]
def badOf (xs : List Int) (p : Nat) : Bool := decide ((p : Int) ∈ xs)
def NewP (w : World) (n : Nat) (xs : List Int) (e : Ending) (w' : World) : Prop :=
  Below w.heap.size w w' ∧ ∃ B M, e = .returned (.tuple #[.pointer (some ⟨B, 0, none⟩), .int .i64 0]) ∧ RG w' w.heap.size B M n (badOf xs) (.slice none 0 0) []
set_option maxRecDepth 100000 in
theorem new_out (parties : Int) (v : Value) (xs : List Int) (hp : ¬ (1 ≤ parties ∧ parties ≤ 64)) (w : World) :
    Calls Try.prog 8 #[.int .i64 parties, v] w fun e w' => e = .returned (.tuple #[.pointer none, .int .i64 1]) ∧ Below w.heap.size w w' := by
  by_cases h1 : 1 ≤ parties
  · have h2 : ¬ parties ≤ 64 := fun h => hp ⟨h1, h⟩
    clear hp
    go_enter Try.func8, Try.ntmps8
    go_wp2_with fail
    go_ret2
    exact ⟨rfl, Below.refl _ _⟩
  · clear hp
    go_enter Try.func8, Try.ntmps8
    go_wp2_with fail
    go_ret2
    exact ⟨rfl, Below.refl _ _⟩
theorem RC.set {cs : Array Value} {n M k : Nat} {bad bad' : Nat → Bool} {sv : Value} (h : RC cs n bad M sv) (hk : k < 64) (hb : ∀ p, bad' p = (bad p || decide (p = k))) : RC (cs.setIfInBounds (1 + k) (.bool true)) n bad' M sv := by
  have hs := h.size
  refine ⟨by simpa using hs, ?_, ?_, ?_, ?_⟩
  · rw [Array.getElem?_setIfInBounds_ne (by omega)]; exact h.h0
  · intro p hp
    by_cases e : p = k
    · subst e; rw [hb]; have hs' : 1 + p < cs.size := by omega
      simp [hs']
    · rw [Array.getElem?_setIfInBounds_ne (by omega), hb, h.hb p hp]; simp [e]
  · rw [Array.getElem?_setIfInBounds_ne (by omega)]; exact h.hm
  · rw [Array.getElem?_setIfInBounds_ne (by omega)]; exact h.hs
set_option maxRecDepth 100000 in
set_option maxHeartbeats 1000000 in
theorem new_in (n : Nat) (h1 : 1 ≤ n) (h2 : n ≤ 64) (v : Value) (xs : List Int) (hx : xs.length ≤ 1000) (w : World) (h : RdV w v (xs.map iv)) :
    Calls Try.prog 8 #[.int .i64 (n : Int), v] w fun e w' => (mayN n xs = false ∧ e = .returned (.tuple #[.pointer none, .int .i64 1]) ∧ Below w.heap.size w w') ∨ (mayN n xs = true ∧ NewP w n xs e w') := by
  obtain ⟨ao, cap, rfl, hc, hm, _, HA⟩ := h
  rw [List.length_map] at hc HA ⊢
  have HA := Lib.hid HA
  have hmm := @run_makeMap Try.prog
  have z1 := zero_run
  have z2 := zeroR_ne
  have z3 : ¬ zeroR.size < 66 := by rw [zeroR_size]; omega
  go_enter Try.func8, Try.ntmps8
  go_wp2_with fail
  obtain ⟨R0, hR0⟩ : ∃ R0, R0 = (zeroR.setIfInBounds 0 (.int .i64 (n : Int))).setIfInBounds 65 (.map (some w.heap.size)) := ⟨_, rfl⟩
  have rc0 := zeroR_rc n w.heap.size
  rw [← hR0] at rc0 ⊢
  clear hR0 z1 z2 z3 hmm
  obtain ⟨q1, q2, q3, q4⟩ := two_allocs w (.map #[] 0) (.cells R0 55)
  have Be : Below w.heap.size w ((w.alloc (.map #[] 0)).alloc (.cells R0 55)) := ((Below.refl _ _).alloc (Nat.le_refl _) _).alloc (by simp) _
  obtain ⟨W, hW⟩ : ∃ W, W = (w.alloc (.map #[] 0)).alloc (.cells R0 55) := ⟨_, rfl⟩
  rw [← hW] at q1 q2 Be ⊢
  clear hW q3 q4
  go_loopw [21] (fun i wr => ∃ j : Nat, j ≤ xs.length ∧ i = .int .i64 (j : Int) ∧ Hid ((xs.take j).all (isB n) = true) ∧ Below w.heap.size w wr ∧ wr.heap[w.heap.size]? = some (.map #[] 0) ∧ ∃ cs, wr.heap[w.heap.size + 1]? = some (.cells cs 55 (0, 0)) ∧ RC cs n (badOf (xs.take j)) w.heap.size (.slice none 0 0)) (fun i _ => 1000 - (intOf i).toNat)
  case atStart => exact ⟨0, Nat.zero_le _, rfl, Lib.hid (by simp), Be, q1, R0, q2, (show badOf (xs.take 0) = fun _ => false from by funext p; simp [badOf]) ▸ rc0⟩
  case round =>
    obtain ⟨j, hj, rfl, hall, bel, hq1, cs, hq2, rc⟩ := hrel
    by_cases hjx : j < xs.length
    · obtain ⟨b, off, rfl, hb, hcells⟩ := HA.out (by omega)
      have hc0 := (bel.cell (p := ⟨b, off + j, none⟩) hb).trans (hcells j hjx)
      rw [List.getElem?_map, List.getElem?_eq_getElem hjx] at hc0
      have ht : xs.take (j + 1) = xs.take j ++ [xs[j]] := by rw [List.take_succ_eq_append_getElem hjx]
      have hmem : xs[j] ∈ xs := List.getElem_mem hjx
      obtain ⟨x, ex⟩ : ∃ x, x = xs[j] := ⟨_, rfl⟩
      rw [← ex] at hc0 ht hmem
      simp only [Option.map_some, iv] at hc0
      have HT := Lib.hid ht
      have HM := Lib.hid hmem
      have I := is_any (w.heap.size + 1) n x wr ((block_cell hq2 0).trans rc.h0)
      clear ht hmem ex hcells
      cases hB : isB n x with
      | false =>
        rw [hB] at I
        have HB := Lib.hid hB
        clear hB rc
        go_wp2_with (go_at_call 21; refine I.mono ?_; rintro e w1 ⟨rfl, rfl⟩)
        go_ret2
        refine .inl ⟨?_, rfl, bel⟩
        rw [mayN_nat, Bool.and_eq_false_iff]
        right
        rw [List.all_eq_false]
        exact ⟨x, HM.out, by rw [HB.out]; simp⟩
      | true =>
        rw [hB] at I
        obtain ⟨h3, h4⟩ := isB_iff.1 hB
        obtain ⟨k, rfl⟩ : ∃ k : Nat, x = (k : Int) := ⟨x.toNat, by omega⟩
        have HB := Lib.hid hB
        have hcb := (block_cell hq2 (1 + k)).trans (rc.hb k (by omega))
        have hfb := block_frozen hq2 (1 + k)
        have RCn := Lib.hid (RC.set (k := k) (bad' := badOf (xs.take j ++ [(k : Int)])) rc (by omega) (by intro p; unfold badOf; simp [Int.natCast_inj]))
        clear hB rc
        go_wp2_with (go_at_call 21; refine I.mono ?_; rintro e w1 ⟨rfl, rfl⟩)
        go_roundw
        case rel =>
          refine ⟨j + 1, by omega, by go_num, Lib.hid ?_, bel.setCell (by simp) _, ?_, _, set_at hq2, ?_⟩
          · rw [HT.out, List.all_append, hall.out]; simp [HB.out]
          · rw [set_old (by omega)]; exact hq1
          · rw [HT.out]; exact RCn.out
        case measure => simp [intOf]; omega
    · go_wp2_with fail
      go_ret2
      refine .inr ⟨?_, bel, w.heap.size + 1, w.heap.size, rfl, ?_⟩
      · rw [mayN_nat]
        have := hall.out
        rw [List.take_of_length_le (by omega)] at this
        simp [this]; omega
      · rw [List.take_of_length_le (by omega)] at rc
        exact ⟨h2, by simp, by simp, by simp, by omega, by omega, ⟨cs, hq2, rc⟩, ⟨#[], 0, hq1, ⟨by simp, stamped_empty 0, by simp⟩, Nat.le_refl _, rfl⟩, World.ownsRow_nil _ _ _ _⟩
end Go.Proofs.Ytojjpnkdblaidaa
