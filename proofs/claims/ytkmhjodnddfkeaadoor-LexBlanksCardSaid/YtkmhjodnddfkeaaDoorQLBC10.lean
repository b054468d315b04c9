/- Lex: Word; names. Written by wip/tools/gen16d.py. -/
import Derived.Test.YtkmhjodnddfkeaaDoorQLBC9
namespace Go.Proofs.YtkmhjodnddfkeaaDoor
open Go Go.RowKit
set_option linter.unusedVariables false
set_option linter.unusedSimpArgs false
set_option maxRecDepth 100000
/-- The words, and what the library's error is, as they lie in memory. -/
def wordsA : Array Value := (wordsL.map fun l => Value.string (str l)).toArray
def TabX (w : World) : Prop := (∃ t fr, w.heap[0]? = some (.cells wordsA t fr)) ∧ 2 < w.heap.size ∧ ∃ ev, w.cell? ⟨2, 0, none⟩ = some ev ∧ (ev = .nilIface ∨ ∃ te pe, ev = .iface te pe)
theorem TabX.below {w w' : World} (h : TabX w) (g : Below w.heap.size w w') : TabX w' := by
  obtain ⟨⟨t, fr, h0⟩, h2, ev, h3, h4⟩ := h
  exact ⟨⟨t, fr, (g.block _ (lt_of_block h0)).trans h0⟩, Nat.lt_of_lt_of_le h2 g.size, ev, (g.cell (p := ⟨2, 0, none⟩) h2).trans h3, h4⟩
theorem TabX.grown {w w' : World} {p : Nat} (h : TabX w) (g : w.grownBy w' (some p)) (hp : 3 ≤ p) : TabX w' := by
  obtain ⟨⟨t, fr, h0⟩, h2, ev, h3, h4⟩ := h
  refine ⟨⟨t, fr, (g.block 0 (lt_of_block h0) (by simp; omega)).trans h0⟩, Nat.lt_of_lt_of_le h2 g.size, ev, ?_, h4⟩
  have e := g.block 2 h2 (by simp; omega)
  unfold World.cell? at h3 ⊢
  rw [e]
  exact h3
theorem words_len : wordsL.length = 22 := rfl
theorem arr_info : (Tryd.prog.info? 45).map (·.size) = some wordsA.size := by kernel_rfl
theorem ix_words (k : Nat) (hk : k < 22) (w : World) : (Instr.index 45 (.agg wordsA) (.int .i64 (k : Int))).run Tryd.prog w = .ok (.string (str (wordsL.getD k []))) w := by
  have hk2 : (k : Int) < 22 := by omega
  have h1 : wordsA.size = 22 := by kernel_rfl
  have hv : wordsA[k]? = some (.string (str (wordsL.getD k []))) := by
    unfold wordsA
    have : k < wordsL.length := hk
    simp [List.getD, this]
  have e1 : (sizeOf 9).run Tryd.prog w = .ok 1 w := by kernel_rfl
  have e2 : (isAgg 9).run Tryd.prog w = .ok false w := by kernel_rfl
  generalize wordsA = A at *
  generalize Value.string (str (wordsL.getD k [])) = V at *
  have e3 : (0 ≤ (k : Int) ∧ (k : Int) < 22) := by omega
  unfold Instr.index
  simp [asIntOf, run_underlying Tryd.underlying45, Sem.run_bind, e1, e2, e3, part, hv]
  omega
theorem word_any (s : List UInt8) (w : World) (tab : TabX w) : Calls Tryd.prog 10 #[.string (str s)] w fun e w' => e = .returned (.bool (wordB s)) ∧ w = w' := by
  obtain ⟨⟨t, fr, h0⟩, -, -⟩ := tab
  have HX := Lib.hid (fun k hk W => ix_words k hk W)
  have HI := Lib.hid arr_info
  obtain ⟨A, hA⟩ : ∃ A, A = wordsA := ⟨_, rfl⟩
  rw [← hA] at h0 HX HI
  have H0 := Lib.hid h0
  clear hA h0
  go_enter Tryd.func10, Tryd.ntmps10
  go_wp2_with (refine wpList_load_row rfl 45 _ rfl 0 rfl t A fr _ H0.out Tryd.underlying45 rfl HI.out ?_)
  go_loop [6] (fun i => ∃ k : Nat, k ≤ 22 ∧ i = .int .i64 (k : Int) ∧ Hid ((wordsL.take k).contains s = false)) (fun i => 22 - (intOf i).toNat)
  case atStart => exact ⟨0, Nat.zero_le _, rfl, Lib.hid rfl⟩
  case round =>
    obtain ⟨k, hk, rfl, HK⟩ := hrel
    by_cases hlt : k < 22
    · have hx := HX.out k hlt
      have hup : (wordsL.take (k + 1)).contains s = ((wordsL.take k).contains s || s == wordsL.getD k []) := by
        have hl : k < wordsL.length := hlt
        rw [List.take_succ_eq_append_getElem hl, List.contains_append]
        congr 1
        have : wordsL.getD k [] = wordsL[k] := by simp [List.getD, hl]
        rw [this]
        rw [Bool.eq_iff_iff]; simp
      have hmem : wordsL.getD k [] ∈ wordsL := by
        have hl : k < wordsL.length := hlt
        have : wordsL.getD k [] = wordsL[k] := by simp [List.getD, hl]
        rw [this]; exact List.getElem_mem _
      obtain ⟨x, hxe⟩ : ∃ x, x = wordsL.getD k [] := ⟨_, rfl⟩
      rw [← hxe] at hx hup hmem
      have HUP := Lib.hid hup
      have HMEM := Lib.hid hmem
      have hki : (k : Int) < 22 := by omega
      clear hup hmem hxe
      by_cases he : s = x
      · have h1 : ((str s).toList == (str x).toList) = true := by rw [eq_str, decide_eq_true_eq]; exact he
        have HR := Lib.hid (show wordB s = true by unfold wordB; rw [he, List.contains_iff_mem]; exact HMEM.out)
        clear he
        go_wp2
        go_ret
        exact ⟨by rw [HR.out]; rfl, rfl⟩
      · have h1 : ((str s).toList == (str x).toList) = false := by rw [eq_str, decide_eq_false_iff_not]; exact he
        have HN := Lib.hid (show (wordsL.take (k + 1)).contains s = false by rw [HUP.out, HK.out, Bool.false_or, beq_eq_false_iff_ne]; exact he)
        clear he
        go_wp2
        exact ⟨⟨k + 1, by omega, by push_cast; rfl, HN⟩, by simp [intOf]; omega⟩
    · obtain rfl : k = 22 := by omega
      have HR := Lib.hid (show wordB s = false by have := HK.out; rw [List.take_of_length_le (by rw [words_len]; exact Nat.le_refl _)] at this; exact this)
      clear HK hlt
      go_wp2
      go_ret
      exact ⟨by rw [HR.out]; rfl, rfl⟩
theorem results_cell_row_tmp {P : Program} {fn : Func} {p u : Tmp} {ty : TypeId} (h : fn.results = #[.cell p ty, .tmp u]) (tmps : Array Value) (w : World) (g : Nat) (t : TypeId) (cs : Array Value) (fr : Nat × Nat) (d : TypeDesc)
    (hp : tmps.getD p undef = .pointer (some ⟨g, 0, none⟩)) (hg : w.heap[g]? = some (.cells cs t fr))
    (hu : P.underlying ty = some d) (hd : (match d with | .struct _ | .array _ _ => true | _ => false) = true) (hi : (P.info? ty).map (·.size) = some cs.size) :
    (results fn tmps).run P w = .ok (.tuple #[.agg cs, tmps.getD u undef]) w := by
  rw [results_cell_tmp h, hp]
  simp [asAddr, run_loadVar_row w g t ty cs fr d hg hu hd hi]
theorem tok_cells : (Tryd.prog.info? 33).map (fun x => x.size) = some 4 := by kernel_rfl
/-- What a reader of a token hands back. -/
def GivesR (p : Nat) (s : List UInt8) (a : Nat) (w : World) (R : Nat ⊕ (Tk × Nat)) (e : Ending) (w' : World) : Prop :=
  (match R with
  | .inl er => e = .returned (.tuple #[.agg #[.int .i64 0, .int .i64 0, .string ⟨#[]⟩, .int .i64 0], .int .i64 (er : Int)])
  | .inr (x, n) => e = .returned (.tuple #[.agg #[.int .i64 (x.kd : Int), .int .i64 0, .string (str x.t), .int .i64 x.i], .int .i64 0]) ∧ Lx w' p s (a + n)) ∧ w.grownBy w' (some p)
theorem grown_none {w w' : World} {r : Option Nat} (h : Below w.heap.size w w') : w.grownBy w' r := grown_belowB grown_reflB h
theorem grown_setN {w x : World} {p M i : Nat} {u : Value} (h : w.grownBy x (some p)) (hM : w.heap.size ≤ M) : w.grownBy (x.setCell ⟨M, i, none⟩ u) (some p) :=
  ⟨h.os, h.tape, h.output, (by simpa using h.size), fun k hk hr => (set_old (by omega)).trans (h.block k hk hr)⟩
/-- Four stores into the block of the result. -/
theorem set4_fin {w x : World} {p M : Nat} {u0 u1 u2 u3 : Value} (h : w.grownBy x (some p)) (hM : w.heap.size ≤ M) :
    w.grownBy ((((x.setCell ⟨M, 0, none⟩ u0).setCell ⟨M, 1, none⟩ u1).setCell ⟨M, 2, none⟩ u2).setCell ⟨M, 3, none⟩ u3) (some p) := grown_setN (grown_setN (grown_setN (grown_setN h hM) hM) hM) hM
theorem name_any (p : Nat) (s : List UInt8) (a : Nat) (w : World) (h : Lx w p s a) (ha : a ≤ s.length) (hs : s.length ≤ 4096) (tab : TabX w) (hp : 3 ≤ p) :
    Calls Tryd.prog 22 #[.pointer (some ⟨p, 0, none⟩)] w (GivesR p s a w (let n := spF nmB (s.drop a); if 16 < n then .inl 5 else if wordB ((s.drop a).take n) then .inr (⟨5, (s.drop a).take n, 0⟩, n) else .inr (⟨1, (s.drop a).take n, 0⟩, n))) := by
  obtain ⟨n, hn⟩ : ∃ n, n = spF nmB (s.drop a) := ⟨_, rfl⟩
  obtain ⟨t, ht⟩ : ∃ t, t = (s.drop a).take n := ⟨_, rfl⟩
  have hnl : a + n ≤ s.length := by rw [hn]; have := sp_le nmB (s.drop a); rw [List.length_drop] at this; omega
  have htl : t.length = n := by rw [ht, List.length_take, List.length_drop]; omega
  have SP := Lib.hid (fun w' (h : Lx w' p s a) => (show Calls Tryd.prog 19 #[.pointer (some ⟨p, 0, none⟩), .func (.func 29) #[] #[]] w' fun e w'' => e = .returned (.int .i64 (n : Int)) ∧ Below w'.heap.size w' w'' by
    rw [hn]; exact span_any 29 nmB (enters_of Tryd.func29 (by kernel_rfl) rfl) nameByte_any p s a w' h ha hs))
  have TK := Lib.hid (fun w' (h : Lx w' p s a) => (show Calls Tryd.prog 28 #[.pointer (some ⟨p, 0, none⟩), .int .i64 (n : Int)] w' fun e w'' => e = .returned (.string (str t)) ∧ Lx w'' p s (a + n) ∧ w'.grownBy w'' (some p) by
    rw [ht]; exact take_any p s a n w' h hnl hs))
  have WO := Lib.hid (fun w' (g : w.grownBy w' (some p)) => word_any t w' (tab.grown g hp))
  simp only
  rw [← hn, ← ht]
  obtain ⟨R, hR⟩ : ∃ R : Nat ⊕ (Tk × Nat), R = if 16 < n then .inl 5 else if wordB t then .inr (⟨5, t, 0⟩, n) else .inr (⟨1, t, 0⟩, n) := ⟨_, rfl⟩
  rw [← hR]
  obtain ⟨Z, hZ⟩ : ∃ Z, Z = GivesR p s a w R := ⟨_, rfl⟩
  rw [← hZ]
  have HZ := Lib.hid hZ
  have HR := Lib.hid hR
  obtain ⟨B, hB⟩ : ∃ B, B = wordB t := ⟨_, rfl⟩
  rw [← hB] at WO
  have HB := Lib.hid hB
  have hsz := str_size t
  have HN := Lib.hid hn
  obtain ⟨T, hT⟩ : ∃ T, T = str t := ⟨_, rfl⟩
  rw [← hT] at TK WO hsz
  rw [htl] at hsz
  have HT := Lib.hid hT
  have q0 := heap_alloc_new w (.cells #[.int .i64 0, .int .i64 0, .string ⟨#[]⟩, .int .i64 0] 33)
  have g0 : w.grownBy (w.alloc (.cells #[.int .i64 0, .int .i64 0, .string ⟨#[]⟩, .int .i64 0] 33)) (some p) := grown_none ((Below.refl w.heap.size w).alloc (Nat.le_refl _) _)
  have l0 : Lx (w.alloc (.cells #[.int .i64 0, .int .i64 0, .string ⟨#[]⟩, .int .i64 0] 33)) p s a := h.below ((Below.refl w.heap.size w).alloc (Nat.le_refl _) _)
  have hpw := lt_of_block h
  clear hR hZ hB hn ht htl hT h
  by_cases h16 : 16 < n
  · have h17 : (16 : Int) < (n : Int) := by omega
    go_enter Tryd.func22, Tryd.ntmps22
    go_wp2_with (first | ((with_reducible refine (SP.out _ l0).mono ?_); rintro e w1 ⟨rfl, g1⟩; (replace q0 := (g1.block _ (lt_of_block q0)).trans q0); (replace g0 := grown_belowB g0 g1); (replace l0 := l0.below g1)) | ((with_reducible refine (TK.out _ l0).mono ?_); rintro e w2 ⟨rfl, l1, g2⟩; (replace q0 := (g2.block _ (lt_of_block q0) (by simp; omega)).trans q0); (replace g0 := grown_transB g0 g2); (obtain ⟨d0, d1, d2, d3, df⟩ := block_cells4 q0)) | ((with_reducible refine (WO.out _ g0).mono ?_); rintro e w3 ⟨rfl, rfl⟩))
    refine bodyPost_ret (results_cell_row_tmp rfl _ _ _ 33 #[.int .i64 0, .int .i64 0, .string ⟨#[]⟩, .int .i64 0] (0, 0) _ rfl (set4_new q0) Tryd.underlying33 rfl tok_cells) rfl ?_
    rw [HZ.out, HR.out, if_pos h16]
    exact ⟨rfl, set4_fin g0 (Nat.le_refl _)⟩
  have h17 : ¬ (16 : Int) < (n : Int) := by omega
  cases B with
  | true =>
    go_enter Tryd.func22, Tryd.ntmps22
    go_wp2_with (first | ((with_reducible refine (SP.out _ l0).mono ?_); rintro e w1 ⟨rfl, g1⟩; (replace q0 := (g1.block _ (lt_of_block q0)).trans q0); (replace g0 := grown_belowB g0 g1); (replace l0 := l0.below g1)) | ((with_reducible refine (TK.out _ l0).mono ?_); rintro e w2 ⟨rfl, l1, g2⟩; (replace q0 := (g2.block _ (lt_of_block q0) (by simp; omega)).trans q0); (replace g0 := grown_transB g0 g2); (obtain ⟨d0, d1, d2, d3, df⟩ := block_cells4 q0)) | ((with_reducible refine (WO.out _ g0).mono ?_); rintro e w3 ⟨rfl, rfl⟩))
    refine bodyPost_ret (results_cell_row_tmp rfl _ _ _ 33 #[.int .i64 5, .int .i64 0, .string T, .int .i64 0] (0, 0) _ rfl (set4_new q0) Tryd.underlying33 rfl tok_cells) rfl ?_
    rw [HZ.out, HR.out, if_neg h16, if_pos HB.out.symm, HT.out]
    exact ⟨⟨rfl, (set4_old (by omega)).trans l1⟩, set4_fin g0 (Nat.le_refl _)⟩
  | false =>
    go_enter Tryd.func22, Tryd.ntmps22
    go_wp2_with (first | ((with_reducible refine (SP.out _ l0).mono ?_); rintro e w1 ⟨rfl, g1⟩; (replace q0 := (g1.block _ (lt_of_block q0)).trans q0); (replace g0 := grown_belowB g0 g1); (replace l0 := l0.below g1)) | ((with_reducible refine (TK.out _ l0).mono ?_); rintro e w2 ⟨rfl, l1, g2⟩; (replace q0 := (g2.block _ (lt_of_block q0) (by simp; omega)).trans q0); (replace g0 := grown_transB g0 g2); (obtain ⟨d0, d1, d2, d3, df⟩ := block_cells4 q0)) | ((with_reducible refine (WO.out _ g0).mono ?_); rintro e w3 ⟨rfl, rfl⟩))
    refine bodyPost_ret (results_cell_row_tmp rfl _ _ _ 33 #[.int .i64 1, .int .i64 0, .string T, .int .i64 0] (0, 0) _ rfl (set4_new q0) Tryd.underlying33 rfl tok_cells) rfl ?_
    rw [HZ.out, HR.out, if_neg h16, if_neg (by rw [← HB.out]; simp), HT.out]
    exact ⟨⟨rfl, (set4_old (by omega)).trans l1⟩, set4_fin g0 (Nat.le_refl _)⟩
end Go.Proofs.YtkmhjodnddfkeaaDoor
