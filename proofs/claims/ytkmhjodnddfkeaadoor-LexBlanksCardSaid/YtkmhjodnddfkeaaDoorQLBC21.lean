/- Lex: numbers. Written by wip/tools/gen16e.py. -/
import Derived.Test.YtkmhjodnddfkeaaDoorQLBC10
import Derived.Test.YtkmhjodnddfkeaaDoorQLBC12
import Derived.Lib.ParseIntBCases
import Derived.Lib.AtoiErrMem
namespace Go.Proofs.YtkmhjodnddfkeaaDoor
open Go Go.RowKit
set_option linter.unusedVariables false
set_option linter.unusedSimpArgs false
set_option maxRecDepth 100000
def numA (acc : Nat) (l : List UInt8) : Nat := l.foldl (fun a c => a * 10 + (c.toNat - 48)) acc
theorem numA_ge : ∀ (l : List UInt8) (acc : Nat), acc ≤ numA acc l
  | [], acc => Nat.le_refl _
  | c :: r, acc => by
    have := numA_ge r (acc * 10 + (c.toNat - 48))
    show acc ≤ numA (acc * 10 + (c.toNat - 48)) r
    omega
theorem parse_digits : ∀ (l : List UInt8) (acc : Nat), (∀ c ∈ l, digB c = true) → acc ≤ 18446744073709551615 → Lib.parseUintM 18446744073709551615 acc l = if 18446744073709551615 < numA acc l then .range else .ok (numA acc l)
  | [], acc, _, h => by
    show Lib.NumEnd.ok acc = if 18446744073709551615 < acc then _ else _
    rw [if_neg (by omega)]
    rfl
  | c :: r, acc, hd, h => by
    have hc := hd c (by simp)
    unfold digB at hc
    simp only [Bool.and_eq_true, decide_eq_true_eq] at hc
    have e : numA acc (c :: r) = numA (acc * 10 + (c.toNat - 48)) r := rfl
    have hge := numA_ge r (acc * 10 + (c.toNat - 48))
    rw [e]
    unfold Lib.parseUintM
    rw [if_pos hc]
    by_cases h1 : 1844674407370955162 ≤ acc
    · rw [if_pos h1, if_pos (by omega)]
    · rw [if_neg h1]
      by_cases h2 : 18446744073709551615 < acc * 10 + (c.toNat - 48)
      · rw [if_pos h2, if_pos (by omega)]
      · rw [if_neg h2]
        exact parse_digits r _ (fun x hx => hd x (List.mem_cons_of_mem _ hx)) (by omega)
theorem parse_int {l : List UInt8} (hl : l ≠ []) (hd : ∀ c ∈ l, digB c = true) : Lib.parseIntB 64 l = if 9223372036854775807 < numV l then .range else .ok (numV l : Int) := by
  have e0 : numV l = numA 0 l := rfl
  have h1 := parse_digits l 0 hd (by omega)
  cases l with
  | nil => exact absurd rfl hl
  | cons c r =>
    have hc := hd c (by simp)
    unfold digB at hc
    simp only [Bool.and_eq_true, decide_eq_true_eq] at hc
    rw [Lib.parseIntB_plain 64 c r (by omega) (by omega)]
    have h2 : Lib.parseUintB 64 (c :: r) = Lib.parseUintM 18446744073709551615 0 (c :: r) := by
      unfold Lib.parseUintB
      rw [if_neg (by simp)]
    rw [h2, h1, e0]
    by_cases h3 : 18446744073709551615 < numA 0 (c :: r)
    · rw [if_pos h3, if_pos (by omega)]; rfl
    · rw [if_neg h3]
      by_cases h4 : 9223372036854775807 < numA 0 (c :: r)
      · rw [if_pos h4]
        show (if 2 ^ (64 - 1) ≤ numA 0 (c :: r) then Lib.NumEnd.range else _) = _
        rw [if_pos (by omega)]
      · rw [if_neg h4]
        show (if 2 ^ (64 - 1) ≤ numA 0 (c :: r) then Lib.NumEnd.range else _) = _
        rw [if_neg (by omega)]
theorem take_all (q : UInt8 → Bool) : ∀ (l : List UInt8), ∀ c ∈ l.takeWhile q, q c = true
  | [], c, h => by simp at h
  | x :: r, c, h => by
    by_cases hx : q x = true
    · rw [List.takeWhile_cons_of_pos hx] at h
      rcases List.mem_cons.1 h with rfl | h
      · exact hx
      · exact take_all q r c h
    · rw [List.takeWhile_cons_of_neg hx] at h
      cases h
def numR (l : List UInt8) (c : UInt8) : Nat ⊕ (Tk × Nat) :=
  let n := spF digB l; if (c = 48 ∧ 1 < n) ∨ 0 < spF nmB (l.drop n) then .inl 3 else if 9223372036854775807 < numV (l.take n) then .inl 8 else .inr (⟨2, [], (numV (l.take n) : Int)⟩, n)
set_option maxHeartbeats 2000000 in
theorem number_any (p : Nat) (s : List UInt8) (a : Nat) (w : World) (h : Lx w p s a) (c : UInt8) (r : List UInt8) (hcr : s.drop a = c :: r) (hcd : digB c = true) (ha : a ≤ s.length) (hs : s.length ≤ 4096) (tab : TabX w) (hp : 3 ≤ p) :
    Calls Tryd.prog 24 #[.pointer (some ⟨p, 0, none⟩)] w (GivesR p s a w (numR (s.drop a) c)) := by
  obtain ⟨n, hn⟩ : ∃ n, n = spF digB (s.drop a) := ⟨_, rfl⟩
  obtain ⟨t, ht⟩ : ∃ t, t = (s.drop a).take n := ⟨_, rfl⟩
  have hnl : a + n ≤ s.length := by rw [hn]; have := sp_le digB (s.drop a); rw [List.length_drop] at this; omega
  have htl : t.length = n := by rw [ht, List.length_take, List.length_drop]; omega
  have htw : t = (s.drop a).takeWhile digB := by rw [ht, hn, sp_take]
  have hn1 : 1 ≤ n := by
    rw [hn, hcr]
    unfold spF
    rw [List.takeWhile_cons_of_pos hcd, List.length_cons]
    omega
  have htd : ∀ c ∈ t, digB c = true := by rw [htw]; exact take_all _ _
  have ht0 : t.getD 0 0 = c := by rw [htw, hcr, List.takeWhile_cons_of_pos hcd]; rfl
  have htne : t ≠ [] := by intro e; rw [e] at htl; simp at htl; omega
  obtain ⟨m, hm⟩ : ∃ m, m = spF nmB (s.drop (a + n)) := ⟨_, rfl⟩
  have SP := Lib.hid (fun w' (h : Lx w' p s a) => (show Calls Tryd.prog 19 #[.pointer (some ⟨p, 0, none⟩), .func (.func 23) #[] #[]] w' fun e w'' => e = .returned (.int .i64 (n : Int)) ∧ Below w'.heap.size w' w'' by
    rw [hn]; exact span_any 23 digB (enters_of Tryd.func23 (by kernel_rfl) rfl) digit_any p s a w' h ha hs))
  have SQ := Lib.hid (fun w' (h : Lx w' p s (a + n)) => (show Calls Tryd.prog 19 #[.pointer (some ⟨p, 0, none⟩), .func (.func 29) #[] #[]] w' fun e w'' => e = .returned (.int .i64 (m : Int)) ∧ Below w'.heap.size w' w'' by
    rw [hm]; exact span_any 29 nmB (enters_of Tryd.func29 (by kernel_rfl) rfl) nameByte_any p s (a + n) w' h hnl hs))
  have TK := Lib.hid (fun w' (h : Lx w' p s a) => (show Calls Tryd.prog 28 #[.pointer (some ⟨p, 0, none⟩), .int .i64 (n : Int)] w' fun e w'' => e = .returned (.string (str t)) ∧ Lx w'' p s (a + n) ∧ w'.grownBy w'' (some p) by
    rw [ht]; exact take_any p s a n w' h hnl hs))
  have hpi := parse_int htne htd
  have hts : (str t).size ≤ 281474976710656 := by rw [str_size]; omega
  have PI1 := Lib.hid (fun (hv : ¬ 9223372036854775807 < numV t) w' => (show Calls Tryd.prog 30 #[.string (str t), .int .i64 10, .int .i64 64] w' fun e w'' => e = .returned (.tuple #[.int .i64 (numV t : Int), .nilIface]) ∧ Below w'.heap.size w' w'' from
    (Tryd.strconv_ParseInt_10_at64_ok (str t) (by omega) (numV t : Int) (by rw [str_toList, hpi, if_neg hv]) w').mono (by
      rintro e w'' ⟨rfl, rfl | ⟨q, rfl⟩⟩
      · exact ⟨rfl, Below.refl _ _⟩
      · exact ⟨rfl, Lib.bytesWorld_below _ _ _⟩)))
  have PI2 := Lib.hid (fun (hv : 9223372036854775807 < numV t) w' (tab : TabX w') => (show Calls Tryd.prog 30 #[.string (str t), .int .i64 10, .int .i64 64] w' fun e w'' => (∃ (v : Int) (tt : TypeId) (N : Nat), e = .returned (.tuple #[.int .i64 v, .iface tt (.pointer (some ⟨N, 0, none⟩))])) ∧ Below w'.heap.size w' w'' by
    obtain ⟨-, -, ev, hev, hk⟩ := tab
    refine (Tryd.strconv_ParseInt_10_at64_range (str t) hts (by rw [str_toList, hpi, if_pos hv]) ev w' hev hk).mono ?_
    rintro e w'' ⟨N, rfl, -, -, g⟩
    exact ⟨⟨_, _, _, rfl⟩, g⟩))
  have hdn : (s.drop a).drop n = s.drop (a + n) := by rw [List.drop_drop]
  obtain ⟨R, hR⟩ : ∃ R : Nat ⊕ (Tk × Nat), R = numR (s.drop a) c := ⟨_, rfl⟩
  have hR2 : R = if (c = 48 ∧ 1 < n) ∨ 0 < m then .inl 3 else if 9223372036854775807 < numV t then .inl 8 else .inr (⟨2, [], (numV t : Int)⟩, n) := by
    rw [hR]
    unfold numR
    simp only
    rw [← hn, hdn, ← hm, ← ht]
  rw [← hR]
  obtain ⟨Z, hZ⟩ : ∃ Z, Z = GivesR p s a w R := ⟨_, rfl⟩
  rw [← hZ]
  have HZ := Lib.hid hZ
  have HR := Lib.hid hR2
  have hsz := str_size t
  have IX : ∀ W : World, (Instr.index 9 (.string (str t)) (.int .i64 0)).run Tryd.prog W = .ok (.int .u8 (c.toNat : Int)) W := by
    intro W
    have h1 : 0 < (str t).size := by omega
    have e : ∀ h, (str t)[0]'h = c := fun h => (str_byte t 0 h).trans ht0
    simp [Instr.index, run_underlying Tryd.underlying9, asIntOf, h1, e, Result.andThen]
  obtain ⟨T, hT⟩ : ∃ T, T = str t := ⟨_, rfl⟩
  rw [← hT] at TK PI1 PI2 hsz IX
  rw [htl] at hsz
  obtain ⟨V, hV⟩ : ∃ V, V = numV t := ⟨_, rfl⟩
  rw [← hV] at PI1 PI2 HR
  have HC := Lib.hid (show c = 48 ↔ c.toNat = 48 from ⟨fun e => by rw [e]; rfl, fun e => UInt8.toNat_inj.1 e⟩)
  obtain ⟨cn, hcn⟩ : ∃ cn, cn = c.toNat := ⟨_, rfl⟩
  rw [← hcn] at IX HC
  have q0 := heap_alloc_new w (.cells #[.int .i64 0, .int .i64 0, .string ⟨#[]⟩, .int .i64 0] 33)
  have g0 : w.grownBy (w.alloc (.cells #[.int .i64 0, .int .i64 0, .string ⟨#[]⟩, .int .i64 0] 33)) (some p) := grown_none ((Below.refl w.heap.size w).alloc (Nat.le_refl _) _)
  have l0 : Lx (w.alloc (.cells #[.int .i64 0, .int .i64 0, .string ⟨#[]⟩, .int .i64 0] 33)) p s a := h.below ((Below.refl w.heap.size w).alloc (Nat.le_refl _) _)
  have hpw := lt_of_block h
  have TAB := Lib.hid tab
  clear hR hR2 hZ hn ht htl hT h hm htw htd ht0 htne hpi hts hdn hV hcn hcr hcd tab
  by_cases h1 : cn = 48 ∧ 1 < n
  · obtain ⟨h48, hgt⟩ := h1
    have HC2 := Lib.hid (HC.out.2 h48)
    have HGT := Lib.hid hgt
    have i1 : ((cn : Int) == 48) = true := by rw [h48]; rfl
    have i2 : decide ((1 : Int) < (n : Int)) = true := by rw [decide_eq_true_eq]; omega
    clear h48
    go_enter Tryd.func24, Tryd.ntmps24
    go_wp2_with (first | ((with_reducible refine (SP.out _ l0).mono ?_); rintro e w1 ⟨rfl, g1⟩; (replace q0 := (g1.block _ (lt_of_block q0)).trans q0); (replace g0 := grown_belowB g0 g1); (replace l0 := l0.below g1)) | ((with_reducible refine (TK.out _ l0).mono ?_); rintro e w2 ⟨rfl, l1, g2⟩; (replace q0 := (g2.block _ (lt_of_block q0) (by simp; omega)).trans q0); (replace g0 := grown_transB g0 g2); (obtain ⟨d0, d1, d2, d3, df⟩ := block_cells4 q0)) | ((with_reducible refine (SQ.out _ l1).mono ?_); rintro e w3 ⟨rfl, g3⟩; (replace q0 := (g3.block _ (lt_of_block q0)).trans q0); (replace g0 := grown_belowB g0 g3); (replace l1 := l1.below g3); (obtain ⟨d0, d1, d2, d3, df⟩ := block_cells4 q0)))
    refine bodyPost_ret (results_cell_row_tmp rfl _ _ _ 33 #[.int .i64 0, .int .i64 0, .string ⟨#[]⟩, .int .i64 0] (0, 0) _ rfl (set4_new q0) Tryd.underlying33 rfl tok_cells) rfl ?_
    rw [HZ.out, HR.out, if_pos (.inl ⟨HC2.out, HGT.out⟩)]
    exact ⟨rfl, set4_fin g0 (Nat.le_refl _)⟩
  have i1 : (((cn : Int) == 48) && decide ((1 : Int) < (n : Int))) = false := by
    rw [Bool.and_eq_false_iff]
    by_cases h48 : cn = 48
    · exact .inr (by rw [decide_eq_false_iff_not]; intro e; exact h1 ⟨h48, by omega⟩)
    · exact .inl (by simp; omega)
  have HN1 := Lib.hid (show ¬ (c = 48 ∧ 1 < n) from fun e => h1 ⟨HC.out.1 e.1, e.2⟩)
  have way : (((cn : Int) == 48) = true ∧ decide ((1 : Int) < (n : Int)) = false) ∨ ((cn : Int) == 48) = false := by
    by_cases h48 : cn = 48
    · exact .inl ⟨by rw [h48]; rfl, by rw [decide_eq_false_iff_not]; intro e; exact h1 ⟨h48, by omega⟩⟩
    · exact .inr (by simp; omega)
  clear h1 i1
  by_cases hm0 : 0 < m
  · have i3 : decide ((0 : Int) < (m : Int)) = true := by rw [decide_eq_true_eq]; omega
    rcases way with ⟨i1, i2⟩ | i1
    · go_enter Tryd.func24, Tryd.ntmps24
      go_wp2_with (first | ((with_reducible refine (SP.out _ l0).mono ?_); rintro e w1 ⟨rfl, g1⟩; (replace q0 := (g1.block _ (lt_of_block q0)).trans q0); (replace g0 := grown_belowB g0 g1); (replace l0 := l0.below g1)) | ((with_reducible refine (TK.out _ l0).mono ?_); rintro e w2 ⟨rfl, l1, g2⟩; (replace q0 := (g2.block _ (lt_of_block q0) (by simp; omega)).trans q0); (replace g0 := grown_transB g0 g2); (obtain ⟨d0, d1, d2, d3, df⟩ := block_cells4 q0)) | ((with_reducible refine (SQ.out _ l1).mono ?_); rintro e w3 ⟨rfl, g3⟩; (replace q0 := (g3.block _ (lt_of_block q0)).trans q0); (replace g0 := grown_belowB g0 g3); (replace l1 := l1.below g3); (obtain ⟨d0, d1, d2, d3, df⟩ := block_cells4 q0)))
      refine bodyPost_ret (results_cell_row_tmp rfl _ _ _ 33 #[.int .i64 0, .int .i64 0, .string ⟨#[]⟩, .int .i64 0] (0, 0) _ rfl (set4_new q0) Tryd.underlying33 rfl tok_cells) rfl ?_
      rw [HZ.out, HR.out, if_pos (.inr hm0)]
      exact ⟨rfl, set4_fin g0 (Nat.le_refl _)⟩
    · go_enter Tryd.func24, Tryd.ntmps24
      go_wp2_with (first | ((with_reducible refine (SP.out _ l0).mono ?_); rintro e w1 ⟨rfl, g1⟩; (replace q0 := (g1.block _ (lt_of_block q0)).trans q0); (replace g0 := grown_belowB g0 g1); (replace l0 := l0.below g1)) | ((with_reducible refine (TK.out _ l0).mono ?_); rintro e w2 ⟨rfl, l1, g2⟩; (replace q0 := (g2.block _ (lt_of_block q0) (by simp; omega)).trans q0); (replace g0 := grown_transB g0 g2); (obtain ⟨d0, d1, d2, d3, df⟩ := block_cells4 q0)) | ((with_reducible refine (SQ.out _ l1).mono ?_); rintro e w3 ⟨rfl, g3⟩; (replace q0 := (g3.block _ (lt_of_block q0)).trans q0); (replace g0 := grown_belowB g0 g3); (replace l1 := l1.below g3); (obtain ⟨d0, d1, d2, d3, df⟩ := block_cells4 q0)))
      refine bodyPost_ret (results_cell_row_tmp rfl _ _ _ 33 #[.int .i64 0, .int .i64 0, .string ⟨#[]⟩, .int .i64 0] (0, 0) _ rfl (set4_new q0) Tryd.underlying33 rfl tok_cells) rfl ?_
      rw [HZ.out, HR.out, if_pos (.inr hm0)]
      exact ⟨rfl, set4_fin g0 (Nat.le_refl _)⟩
  have i3 : decide ((0 : Int) < (m : Int)) = false := by rw [decide_eq_false_iff_not]; omega
  have HNO := Lib.hid (show ¬ ((c = 48 ∧ 1 < n) ∨ 0 < m) from fun e => e.elim HN1.out hm0)
  by_cases hv : 9223372036854775807 < V
  · rcases way with ⟨i1, i2⟩ | i1
    · go_enter Tryd.func24, Tryd.ntmps24
      go_wp2_with (first | ((with_reducible refine (SP.out _ l0).mono ?_); rintro e w1 ⟨rfl, g1⟩; (replace q0 := (g1.block _ (lt_of_block q0)).trans q0); (replace g0 := grown_belowB g0 g1); (replace l0 := l0.below g1)) | ((with_reducible refine (TK.out _ l0).mono ?_); rintro e w2 ⟨rfl, l1, g2⟩; (replace q0 := (g2.block _ (lt_of_block q0) (by simp; omega)).trans q0); (replace g0 := grown_transB g0 g2); (obtain ⟨d0, d1, d2, d3, df⟩ := block_cells4 q0)) | ((with_reducible refine (SQ.out _ l1).mono ?_); rintro e w3 ⟨rfl, g3⟩; (replace q0 := (g3.block _ (lt_of_block q0)).trans q0); (replace g0 := grown_belowB g0 g3); (replace l1 := l1.below g3); (obtain ⟨d0, d1, d2, d3, df⟩ := block_cells4 q0)) | ((with_reducible refine (PI2.out hv _ (TAB.out.grown g0 hp)).mono ?_); rintro e w4 ⟨⟨v, tt, N, rfl⟩, g4⟩; (replace q0 := (g4.block _ (lt_of_block q0)).trans q0); (replace g0 := grown_belowB g0 g4); (replace l1 := l1.below g4); (obtain ⟨d0, d1, d2, d3, df⟩ := block_cells4 q0)))
      refine bodyPost_ret (results_cell_row_tmp rfl _ _ _ 33 #[.int .i64 0, .int .i64 0, .string ⟨#[]⟩, .int .i64 0] (0, 0) _ rfl (set4_new q0) Tryd.underlying33 rfl tok_cells) rfl ?_
      rw [HZ.out, HR.out, if_neg HNO.out, if_pos hv]
      exact ⟨rfl, set4_fin g0 (Nat.le_refl _)⟩
    · go_enter Tryd.func24, Tryd.ntmps24
      go_wp2_with (first | ((with_reducible refine (SP.out _ l0).mono ?_); rintro e w1 ⟨rfl, g1⟩; (replace q0 := (g1.block _ (lt_of_block q0)).trans q0); (replace g0 := grown_belowB g0 g1); (replace l0 := l0.below g1)) | ((with_reducible refine (TK.out _ l0).mono ?_); rintro e w2 ⟨rfl, l1, g2⟩; (replace q0 := (g2.block _ (lt_of_block q0) (by simp; omega)).trans q0); (replace g0 := grown_transB g0 g2); (obtain ⟨d0, d1, d2, d3, df⟩ := block_cells4 q0)) | ((with_reducible refine (SQ.out _ l1).mono ?_); rintro e w3 ⟨rfl, g3⟩; (replace q0 := (g3.block _ (lt_of_block q0)).trans q0); (replace g0 := grown_belowB g0 g3); (replace l1 := l1.below g3); (obtain ⟨d0, d1, d2, d3, df⟩ := block_cells4 q0)) | ((with_reducible refine (PI2.out hv _ (TAB.out.grown g0 hp)).mono ?_); rintro e w4 ⟨⟨v, tt, N, rfl⟩, g4⟩; (replace q0 := (g4.block _ (lt_of_block q0)).trans q0); (replace g0 := grown_belowB g0 g4); (replace l1 := l1.below g4); (obtain ⟨d0, d1, d2, d3, df⟩ := block_cells4 q0)))
      refine bodyPost_ret (results_cell_row_tmp rfl _ _ _ 33 #[.int .i64 0, .int .i64 0, .string ⟨#[]⟩, .int .i64 0] (0, 0) _ rfl (set4_new q0) Tryd.underlying33 rfl tok_cells) rfl ?_
      rw [HZ.out, HR.out, if_neg HNO.out, if_pos hv]
      exact ⟨rfl, set4_fin g0 (Nat.le_refl _)⟩
  · rcases way with ⟨i1, i2⟩ | i1
    · go_enter Tryd.func24, Tryd.ntmps24
      go_wp2_with (first | ((with_reducible refine (SP.out _ l0).mono ?_); rintro e w1 ⟨rfl, g1⟩; (replace q0 := (g1.block _ (lt_of_block q0)).trans q0); (replace g0 := grown_belowB g0 g1); (replace l0 := l0.below g1)) | ((with_reducible refine (TK.out _ l0).mono ?_); rintro e w2 ⟨rfl, l1, g2⟩; (replace q0 := (g2.block _ (lt_of_block q0) (by simp; omega)).trans q0); (replace g0 := grown_transB g0 g2); (obtain ⟨d0, d1, d2, d3, df⟩ := block_cells4 q0)) | ((with_reducible refine (SQ.out _ l1).mono ?_); rintro e w3 ⟨rfl, g3⟩; (replace q0 := (g3.block _ (lt_of_block q0)).trans q0); (replace g0 := grown_belowB g0 g3); (replace l1 := l1.below g3); (obtain ⟨d0, d1, d2, d3, df⟩ := block_cells4 q0)) | ((with_reducible refine (PI1.out hv _).mono ?_); rintro e w4 ⟨rfl, g4⟩; (replace q0 := (g4.block _ (lt_of_block q0)).trans q0); (replace g0 := grown_belowB g0 g4); (replace l1 := l1.below g4); (obtain ⟨d0, d1, d2, d3, df⟩ := block_cells4 q0)))
      refine bodyPost_ret (results_cell_row_tmp rfl _ _ _ 33 #[.int .i64 2, .int .i64 0, .string ⟨#[]⟩, .int .i64 (V : Int)] (0, 0) _ rfl (set4_new q0) Tryd.underlying33 rfl tok_cells) rfl ?_
      rw [HZ.out, HR.out, if_neg HNO.out, if_neg hv]
      exact ⟨⟨rfl, (set4_old (by omega)).trans l1⟩, set4_fin g0 (Nat.le_refl _)⟩
    · go_enter Tryd.func24, Tryd.ntmps24
      go_wp2_with (first | ((with_reducible refine (SP.out _ l0).mono ?_); rintro e w1 ⟨rfl, g1⟩; (replace q0 := (g1.block _ (lt_of_block q0)).trans q0); (replace g0 := grown_belowB g0 g1); (replace l0 := l0.below g1)) | ((with_reducible refine (TK.out _ l0).mono ?_); rintro e w2 ⟨rfl, l1, g2⟩; (replace q0 := (g2.block _ (lt_of_block q0) (by simp; omega)).trans q0); (replace g0 := grown_transB g0 g2); (obtain ⟨d0, d1, d2, d3, df⟩ := block_cells4 q0)) | ((with_reducible refine (SQ.out _ l1).mono ?_); rintro e w3 ⟨rfl, g3⟩; (replace q0 := (g3.block _ (lt_of_block q0)).trans q0); (replace g0 := grown_belowB g0 g3); (replace l1 := l1.below g3); (obtain ⟨d0, d1, d2, d3, df⟩ := block_cells4 q0)) | ((with_reducible refine (PI1.out hv _).mono ?_); rintro e w4 ⟨rfl, g4⟩; (replace q0 := (g4.block _ (lt_of_block q0)).trans q0); (replace g0 := grown_belowB g0 g4); (replace l1 := l1.below g4); (obtain ⟨d0, d1, d2, d3, df⟩ := block_cells4 q0)))
      refine bodyPost_ret (results_cell_row_tmp rfl _ _ _ 33 #[.int .i64 2, .int .i64 0, .string ⟨#[]⟩, .int .i64 (V : Int)] (0, 0) _ rfl (set4_new q0) Tryd.underlying33 rfl tok_cells) rfl ?_
      rw [HZ.out, HR.out, if_neg HNO.out, if_neg hv]
      exact ⟨⟨rfl, (set4_old (by omega)).trans l1⟩, set4_fin g0 (Nat.le_refl _)⟩
end Go.Proofs.YtkmhjodnddfkeaaDoor
