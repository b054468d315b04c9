/- Slots: the document's Propose. Written by wip/tools/gen29x.py. -/
import Derived.Test.YtgmblgpfgdfnaaaDoorQSPC28
namespace Go.Proofs.YtgmblgpfgdfnaaaDoor
open Go Go.RowKit
set_option linter.unusedVariables false
set_option linter.unusedSimpArgs false
set_option maxRecDepth 100000
set_option maxHeartbeats 6000000 in
theorem rpropose_any (s : Sl) (vP vC : Value) (v t : Int) (tb : List UInt8) (w : World) (h : RdS w s vP vC) (hb : tb.length ≤ maxLen) : Calls Tryd.prog 11 #[sV s vP vC, .int .i64 v, .int .i64 t, .string (str tb)] w (GivesR w (propR s v t tb) (propE s v t tb)) := by
  obtain ⟨pa, pn, pc, rfl⟩ := rdt_val h.p
  obtain ⟨ca, cn, cc, rfl⟩ := rdt_val h.c
  have MY0 := fun w' (g : Below w.heap.size w w') => refMay_any s _ _ w' (h.below g (Nat.le_refl _))
  have IV := Lib.hid (fun w' => refNum_any v w')
  have IT := Lib.hid (fun w' => refNum_any t w')
  have RP := Lib.hid (fun w' (g : Below w.heap.size w w') => RdT.below h.p g (Nat.le_refl _))
  have RC := Lib.hid (fun w' (g : Below w.heap.size w w') => RdT.below h.c g (Nat.le_refl _))
  have HRE0 := show propR s v t tb = if propE s v t tb = 0 then ⟨true, v, t, tb, s.ps, s.cs⟩ else sl0 from rfl
  obtain ⟨E, hE⟩ : ∃ E, E = propE s v t tb := ⟨_, rfl⟩
  obtain ⟨R, hR⟩ : ∃ R, R = propR s v t tb := ⟨_, rfl⟩
  rw [← hE, ← hR] at HRE0
  rw [← hE, ← hR]
  unfold propE at hE
  obtain ⟨Z, hZ⟩ : ∃ Z, Z = GivesR w R E := ⟨_, rfl⟩
  rw [← hZ]
  have HZ := Lib.hid hZ
  obtain ⟨has, vw, tm, body, ps, cs⟩ := s
  unfold sV at MY0 ⊢
  simp only at MY0 hE HRE0 RP RC ⊢
  have HRE := Lib.hid HRE0
  obtain ⟨m, hm⟩ : ∃ m, m = mayS ⟨has, vw, tm, body, ps, cs⟩ := ⟨_, rfl⟩
  obtain ⟨b1, hb1⟩ : ∃ b, b = numB v := ⟨_, rfl⟩
  obtain ⟨b2, hb2⟩ : ∃ b, b = numB t := ⟨_, rfl⟩
  obtain ⟨x3, hz3⟩ : ∃ b, decide (body = tb) = b := ⟨_, rfl⟩
  have y3 := (eq_strs body tb).trans hz3
  obtain ⟨n, hn⟩ : ∃ n, n = tb.length := ⟨_, rfl⟩
  have y4 : (str tb).size = n := by rw [hn]; exact str_size tb
  rw [← hm] at MY0
  rw [← hm, ← hb1, ← hb2, hz3, ← hn] at hE
  rw [← hb1] at IV
  rw [← hb2] at IT
  have HBT := Lib.hid hb
  have hnb : n ≤ 9223372036854775807 := by rw [hn]; unfold maxLen at hb; omega
  obtain ⟨S, hS⟩ : ∃ S, S = str body := ⟨_, rfl⟩
  obtain ⟨T, hT⟩ : ∃ T, T = str tb := ⟨_, rfl⟩
  rw [← hS] at MY0 y3
  rw [← hT] at y3 y4
  rw [← hS, ← hT]
  have HT := Lib.hid hT
  have HEE := Lib.hid hE
  have MY := Lib.hid MY0
  have hal := two_allocs w (.cells #[.bool has, .int .i64 vw, .int .i64 tm, .string S, .slice pa pn pc, .slice ca cn cc] 24) (.cells #[.bool false, .int .i64 0, .int .i64 0, .string ⟨#[]⟩, .slice none 0 0, .slice none 0 0] 24)
  have q0 := hal.1
  have q1 := hal.2.1
  have bel := ((Below.refl w.heap.size w).alloc (Nat.le_refl _) (.cells #[.bool has, .int .i64 vw, .int .i64 tm, .string S, .slice pa pn pc, .slice ca cn cc] 24)).alloc (by simp) (.cells #[.bool false, .int .i64 0, .int .i64 0, .string ⟨#[]⟩, .slice none 0 0, .slice none 0 0] 24)
  obtain ⟨d0, d1, d2, d3, d4, d5, df⟩ := block_cells6 q0
  obtain ⟨z0, z1, z2, z3, z4, z5, zf⟩ := block_cells6 q1
  clear h MY0 hR hZ hE hm hb1 hb2 hz3 hn hS hT hb hal HRE0
  cases m with
  | false =>
    have HE := Lib.hid (show E = 1 by rw [HEE.out]; simp [])
    go_enter Tryd.func11, Tryd.ntmps11
    go_wp2_with (first | ((with_reducible refine (MY.out _ bel).mono ?_); rintro e w2 ⟨rfl, g⟩; (replace q0 := (g.block _ (lt_of_block q0)).trans q0); (replace q1 := (g.block _ (lt_of_block q1)).trans q1); (clear d0 d1 d2 d3 d4 d5 df z0 z1 z2 z3 z4 z5 zf); (obtain ⟨d0, d1, d2, d3, d4, d5, df⟩ := block_cells6 q0); (obtain ⟨z0, z1, z2, z3, z4, z5, zf⟩ := block_cells6 q1); (replace bel := chain bel g); clear g) | ((with_reducible refine (IV.out _).mono ?_); rintro e w9 ⟨rfl, rfl⟩) | ((with_reducible refine (IT.out _).mono ?_); rintro e w9 ⟨rfl, rfl⟩))
    have QZ := Lib.hid (set6_new (u0 := .bool false) (u1 := .int .i64 0) (u2 := .int .i64 0) (u3 := .string ⟨#[]⟩) (u4 := .slice none 0 0) (u5 := .slice none 0 0) q1)
    have G6 := set6_grown (w := w2) (B := w.heap.size + 1) (u0 := .bool false) (u1 := .int .i64 0) (u2 := .int .i64 0) (u3 := .string ⟨#[]⟩) (u4 := .slice none 0 0) (u5 := .slice none 0 0)
    have FB := Lib.hid (below_grownB bel G6 bel.size (by omega))
    (try simp only [Exit.inBlock, Exit.then])
    refine bodyPost_ret (results_cell_row_tmp rfl _ _ _ _ _ (0, 0) _ rfl QZ.out Tryd.underlying24 rfl slot_size) rfl ?_
    show Z (.returned _) _
    rw [HZ.out, HRE.out, if_neg (by rw [HE.out]; decide)]
    exact ⟨none, 0, 0, none, 0, 0, by rw [HE.out]; rfl, rds0 _, FB.out⟩
  | true =>
    cases b1 with
    | false =>
      have HE := Lib.hid (show E = 1 by rw [HEE.out]; simp [])
      go_enter Tryd.func11, Tryd.ntmps11
      go_wp2_with (first | ((with_reducible refine (MY.out _ bel).mono ?_); rintro e w2 ⟨rfl, g⟩; (replace q0 := (g.block _ (lt_of_block q0)).trans q0); (replace q1 := (g.block _ (lt_of_block q1)).trans q1); (clear d0 d1 d2 d3 d4 d5 df z0 z1 z2 z3 z4 z5 zf); (obtain ⟨d0, d1, d2, d3, d4, d5, df⟩ := block_cells6 q0); (obtain ⟨z0, z1, z2, z3, z4, z5, zf⟩ := block_cells6 q1); (replace bel := chain bel g); clear g) | ((with_reducible refine (IV.out _).mono ?_); rintro e w9 ⟨rfl, rfl⟩) | ((with_reducible refine (IT.out _).mono ?_); rintro e w9 ⟨rfl, rfl⟩))
      have QZ := Lib.hid (set6_new (u0 := .bool false) (u1 := .int .i64 0) (u2 := .int .i64 0) (u3 := .string ⟨#[]⟩) (u4 := .slice none 0 0) (u5 := .slice none 0 0) q1)
      have G6 := set6_grown (w := w2) (B := w.heap.size + 1) (u0 := .bool false) (u1 := .int .i64 0) (u2 := .int .i64 0) (u3 := .string ⟨#[]⟩) (u4 := .slice none 0 0) (u5 := .slice none 0 0)
      have FB := Lib.hid (below_grownB bel G6 bel.size (by omega))
      (try simp only [Exit.inBlock, Exit.then])
      refine bodyPost_ret (results_cell_row_tmp rfl _ _ _ _ _ (0, 0) _ rfl QZ.out Tryd.underlying24 rfl slot_size) rfl ?_
      show Z (.returned _) _
      rw [HZ.out, HRE.out, if_neg (by rw [HE.out]; decide)]
      exact ⟨none, 0, 0, none, 0, 0, by rw [HE.out]; rfl, rds0 _, FB.out⟩
    | true =>
      cases b2 with
      | false =>
        have HE := Lib.hid (show E = 1 by rw [HEE.out]; simp [])
        go_enter Tryd.func11, Tryd.ntmps11
        go_wp2_with (first | ((with_reducible refine (MY.out _ bel).mono ?_); rintro e w2 ⟨rfl, g⟩; (replace q0 := (g.block _ (lt_of_block q0)).trans q0); (replace q1 := (g.block _ (lt_of_block q1)).trans q1); (clear d0 d1 d2 d3 d4 d5 df z0 z1 z2 z3 z4 z5 zf); (obtain ⟨d0, d1, d2, d3, d4, d5, df⟩ := block_cells6 q0); (obtain ⟨z0, z1, z2, z3, z4, z5, zf⟩ := block_cells6 q1); (replace bel := chain bel g); clear g) | ((with_reducible refine (IV.out _).mono ?_); rintro e w9 ⟨rfl, rfl⟩) | ((with_reducible refine (IT.out _).mono ?_); rintro e w9 ⟨rfl, rfl⟩))
        have QZ := Lib.hid (set6_new (u0 := .bool false) (u1 := .int .i64 0) (u2 := .int .i64 0) (u3 := .string ⟨#[]⟩) (u4 := .slice none 0 0) (u5 := .slice none 0 0) q1)
        have G6 := set6_grown (w := w2) (B := w.heap.size + 1) (u0 := .bool false) (u1 := .int .i64 0) (u2 := .int .i64 0) (u3 := .string ⟨#[]⟩) (u4 := .slice none 0 0) (u5 := .slice none 0 0)
        have FB := Lib.hid (below_grownB bel G6 bel.size (by omega))
        (try simp only [Exit.inBlock, Exit.then])
        refine bodyPost_ret (results_cell_row_tmp rfl _ _ _ _ _ (0, 0) _ rfl QZ.out Tryd.underlying24 rfl slot_size) rfl ?_
        show Z (.returned _) _
        rw [HZ.out, HRE.out, if_neg (by rw [HE.out]; decide)]
        exact ⟨none, 0, 0, none, 0, 0, by rw [HE.out]; rfl, rds0 _, FB.out⟩
      | true =>
        by_cases hb3 : n ≤ 65536
        · have db3 : decide (n ≤ 65536) = true := decide_eq_true hb3
          cases has with
          | false =>
            have HE := Lib.hid (show E = 0 by rw [HEE.out]; simp [db3])
            clear db3
            go_enter Tryd.func11, Tryd.ntmps11
            go_wp2_with (first | ((with_reducible refine (MY.out _ bel).mono ?_); rintro e w2 ⟨rfl, g⟩; (replace q0 := (g.block _ (lt_of_block q0)).trans q0); (replace q1 := (g.block _ (lt_of_block q1)).trans q1); (clear d0 d1 d2 d3 d4 d5 df z0 z1 z2 z3 z4 z5 zf); (obtain ⟨d0, d1, d2, d3, d4, d5, df⟩ := block_cells6 q0); (obtain ⟨z0, z1, z2, z3, z4, z5, zf⟩ := block_cells6 q1); (replace bel := chain bel g); clear g) | ((with_reducible refine (IV.out _).mono ?_); rintro e w9 ⟨rfl, rfl⟩) | ((with_reducible refine (IT.out _).mono ?_); rintro e w9 ⟨rfl, rfl⟩))
            have QZ := Lib.hid (set6_new (u0 := .bool true) (u1 := .int .i64 v) (u2 := .int .i64 t) (u3 := .string T) (u4 := .slice pa pn pc) (u5 := .slice ca cn cc) q1)
            have G6 := set6_grown (w := w2) (B := w.heap.size + 1) (u0 := .bool true) (u1 := .int .i64 v) (u2 := .int .i64 t) (u3 := .string T) (u4 := .slice pa pn pc) (u5 := .slice ca cn cc)
            have FB := Lib.hid (below_grownB bel G6 bel.size (by omega))
            (try simp only [Exit.inBlock, Exit.then])
            have P6 := rdt_six (one_slice _ _ _) (one_slice _ _ _) q1 G6 (RP.out _ bel)
            have C6 := rdt_six (one_slice _ _ _) (one_slice _ _ _) q1 G6 (RC.out _ bel)
            refine bodyPost_ret (results_cell_row_tmp rfl _ _ _ _ _ (0, 0) _ rfl QZ.out Tryd.underlying24 rfl slot_size) rfl ?_
            show Z (.returned _) _
            rw [HZ.out, HRE.out, if_pos HE.out]
            exact ⟨pa, pn, pc, ca, cn, cc, by rw [HT.out, HE.out]; rfl, ⟨P6, C6, HBT.out⟩, FB.out⟩
          | true =>
            by_cases hg1 : v < vw
            · have dg1 : decide (v < vw) = true := decide_eq_true hg1
              have HE := Lib.hid (show E = 18 by rw [HEE.out]; simp [db3, dg1])
              clear db3
              clear dg1
              go_enter Tryd.func11, Tryd.ntmps11
              go_wp2_with (first | ((with_reducible refine (MY.out _ bel).mono ?_); rintro e w2 ⟨rfl, g⟩; (replace q0 := (g.block _ (lt_of_block q0)).trans q0); (replace q1 := (g.block _ (lt_of_block q1)).trans q1); (clear d0 d1 d2 d3 d4 d5 df z0 z1 z2 z3 z4 z5 zf); (obtain ⟨d0, d1, d2, d3, d4, d5, df⟩ := block_cells6 q0); (obtain ⟨z0, z1, z2, z3, z4, z5, zf⟩ := block_cells6 q1); (replace bel := chain bel g); clear g) | ((with_reducible refine (IV.out _).mono ?_); rintro e w9 ⟨rfl, rfl⟩) | ((with_reducible refine (IT.out _).mono ?_); rintro e w9 ⟨rfl, rfl⟩))
              have QZ := Lib.hid (set6_new (u0 := .bool false) (u1 := .int .i64 0) (u2 := .int .i64 0) (u3 := .string ⟨#[]⟩) (u4 := .slice none 0 0) (u5 := .slice none 0 0) q1)
              have G6 := set6_grown (w := w2) (B := w.heap.size + 1) (u0 := .bool false) (u1 := .int .i64 0) (u2 := .int .i64 0) (u3 := .string ⟨#[]⟩) (u4 := .slice none 0 0) (u5 := .slice none 0 0)
              have FB := Lib.hid (below_grownB bel G6 bel.size (by omega))
              (try simp only [Exit.inBlock, Exit.then])
              refine bodyPost_ret (results_cell_row_tmp rfl _ _ _ _ _ (0, 0) _ rfl QZ.out Tryd.underlying24 rfl slot_size) rfl ?_
              show Z (.returned _) _
              rw [HZ.out, HRE.out, if_neg (by rw [HE.out]; decide)]
              exact ⟨none, 0, 0, none, 0, 0, by rw [HE.out]; rfl, rds0 _, FB.out⟩
            · have dg1 : decide (v < vw) = false := decide_eq_false hg1
              by_cases he1 : vw = v
              · have de1 : decide (vw = v) = true := decide_eq_true he1
                have ee1 : (vw == v) = true := by simpa using he1
                by_cases he2 : tm = t
                · have de2 : decide (tm = t) = true := decide_eq_true he2
                  have ee2 : (tm == t) = true := by simpa using he2
                  cases x3 with
                  | false =>
                    have HE := Lib.hid (show E = 23 by rw [HEE.out]; simp [db3, dg1, de1, de2])
                    clear db3
                    clear dg1
                    clear he1 de1
                    clear he2 de2
                    go_enter Tryd.func11, Tryd.ntmps11
                    go_wp2_with (first | ((with_reducible refine (MY.out _ bel).mono ?_); rintro e w2 ⟨rfl, g⟩; (replace q0 := (g.block _ (lt_of_block q0)).trans q0); (replace q1 := (g.block _ (lt_of_block q1)).trans q1); (clear d0 d1 d2 d3 d4 d5 df z0 z1 z2 z3 z4 z5 zf); (obtain ⟨d0, d1, d2, d3, d4, d5, df⟩ := block_cells6 q0); (obtain ⟨z0, z1, z2, z3, z4, z5, zf⟩ := block_cells6 q1); (replace bel := chain bel g); clear g) | ((with_reducible refine (IV.out _).mono ?_); rintro e w9 ⟨rfl, rfl⟩) | ((with_reducible refine (IT.out _).mono ?_); rintro e w9 ⟨rfl, rfl⟩))
                    have QZ := Lib.hid (set6_new (u0 := .bool false) (u1 := .int .i64 0) (u2 := .int .i64 0) (u3 := .string ⟨#[]⟩) (u4 := .slice none 0 0) (u5 := .slice none 0 0) q1)
                    have G6 := set6_grown (w := w2) (B := w.heap.size + 1) (u0 := .bool false) (u1 := .int .i64 0) (u2 := .int .i64 0) (u3 := .string ⟨#[]⟩) (u4 := .slice none 0 0) (u5 := .slice none 0 0)
                    have FB := Lib.hid (below_grownB bel G6 bel.size (by omega))
                    (try simp only [Exit.inBlock, Exit.then])
                    refine bodyPost_ret (results_cell_row_tmp rfl _ _ _ _ _ (0, 0) _ rfl QZ.out Tryd.underlying24 rfl slot_size) rfl ?_
                    show Z (.returned _) _
                    rw [HZ.out, HRE.out, if_neg (by rw [HE.out]; decide)]
                    exact ⟨none, 0, 0, none, 0, 0, by rw [HE.out]; rfl, rds0 _, FB.out⟩
                  | true =>
                    have HE := Lib.hid (show E = 16 by rw [HEE.out]; simp [db3, dg1, de1, de2])
                    clear db3
                    clear dg1
                    clear he1 de1
                    clear he2 de2
                    go_enter Tryd.func11, Tryd.ntmps11
                    go_wp2_with (first | ((with_reducible refine (MY.out _ bel).mono ?_); rintro e w2 ⟨rfl, g⟩; (replace q0 := (g.block _ (lt_of_block q0)).trans q0); (replace q1 := (g.block _ (lt_of_block q1)).trans q1); (clear d0 d1 d2 d3 d4 d5 df z0 z1 z2 z3 z4 z5 zf); (obtain ⟨d0, d1, d2, d3, d4, d5, df⟩ := block_cells6 q0); (obtain ⟨z0, z1, z2, z3, z4, z5, zf⟩ := block_cells6 q1); (replace bel := chain bel g); clear g) | ((with_reducible refine (IV.out _).mono ?_); rintro e w9 ⟨rfl, rfl⟩) | ((with_reducible refine (IT.out _).mono ?_); rintro e w9 ⟨rfl, rfl⟩))
                    have QZ := Lib.hid (set6_new (u0 := .bool false) (u1 := .int .i64 0) (u2 := .int .i64 0) (u3 := .string ⟨#[]⟩) (u4 := .slice none 0 0) (u5 := .slice none 0 0) q1)
                    have G6 := set6_grown (w := w2) (B := w.heap.size + 1) (u0 := .bool false) (u1 := .int .i64 0) (u2 := .int .i64 0) (u3 := .string ⟨#[]⟩) (u4 := .slice none 0 0) (u5 := .slice none 0 0)
                    have FB := Lib.hid (below_grownB bel G6 bel.size (by omega))
                    (try simp only [Exit.inBlock, Exit.then])
                    refine bodyPost_ret (results_cell_row_tmp rfl _ _ _ _ _ (0, 0) _ rfl QZ.out Tryd.underlying24 rfl slot_size) rfl ?_
                    show Z (.returned _) _
                    rw [HZ.out, HRE.out, if_neg (by rw [HE.out]; decide)]
                    exact ⟨none, 0, 0, none, 0, 0, by rw [HE.out]; rfl, rds0 _, FB.out⟩
                · have de2 : decide (tm = t) = false := decide_eq_false he2
                  have ee2 : (tm == t) = false := by simpa using he2
                  have HE := Lib.hid (show E = 23 by rw [HEE.out]; simp [db3, dg1, de1, de2])
                  clear db3
                  clear dg1
                  clear he1 de1
                  clear he2 de2
                  go_enter Tryd.func11, Tryd.ntmps11
                  go_wp2_with (first | ((with_reducible refine (MY.out _ bel).mono ?_); rintro e w2 ⟨rfl, g⟩; (replace q0 := (g.block _ (lt_of_block q0)).trans q0); (replace q1 := (g.block _ (lt_of_block q1)).trans q1); (clear d0 d1 d2 d3 d4 d5 df z0 z1 z2 z3 z4 z5 zf); (obtain ⟨d0, d1, d2, d3, d4, d5, df⟩ := block_cells6 q0); (obtain ⟨z0, z1, z2, z3, z4, z5, zf⟩ := block_cells6 q1); (replace bel := chain bel g); clear g) | ((with_reducible refine (IV.out _).mono ?_); rintro e w9 ⟨rfl, rfl⟩) | ((with_reducible refine (IT.out _).mono ?_); rintro e w9 ⟨rfl, rfl⟩))
                  have QZ := Lib.hid (set6_new (u0 := .bool false) (u1 := .int .i64 0) (u2 := .int .i64 0) (u3 := .string ⟨#[]⟩) (u4 := .slice none 0 0) (u5 := .slice none 0 0) q1)
                  have G6 := set6_grown (w := w2) (B := w.heap.size + 1) (u0 := .bool false) (u1 := .int .i64 0) (u2 := .int .i64 0) (u3 := .string ⟨#[]⟩) (u4 := .slice none 0 0) (u5 := .slice none 0 0)
                  have FB := Lib.hid (below_grownB bel G6 bel.size (by omega))
                  (try simp only [Exit.inBlock, Exit.then])
                  refine bodyPost_ret (results_cell_row_tmp rfl _ _ _ _ _ (0, 0) _ rfl QZ.out Tryd.underlying24 rfl slot_size) rfl ?_
                  show Z (.returned _) _
                  rw [HZ.out, HRE.out, if_neg (by rw [HE.out]; decide)]
                  exact ⟨none, 0, 0, none, 0, 0, by rw [HE.out]; rfl, rds0 _, FB.out⟩
              · have de1 : decide (vw = v) = false := decide_eq_false he1
                have ee1 : (vw == v) = false := by simpa using he1
                have HE := Lib.hid (show E = 0 by rw [HEE.out]; simp [db3, dg1, de1])
                clear db3
                clear dg1
                clear he1 de1
                go_enter Tryd.func11, Tryd.ntmps11
                go_wp2_with (first | ((with_reducible refine (MY.out _ bel).mono ?_); rintro e w2 ⟨rfl, g⟩; (replace q0 := (g.block _ (lt_of_block q0)).trans q0); (replace q1 := (g.block _ (lt_of_block q1)).trans q1); (clear d0 d1 d2 d3 d4 d5 df z0 z1 z2 z3 z4 z5 zf); (obtain ⟨d0, d1, d2, d3, d4, d5, df⟩ := block_cells6 q0); (obtain ⟨z0, z1, z2, z3, z4, z5, zf⟩ := block_cells6 q1); (replace bel := chain bel g); clear g) | ((with_reducible refine (IV.out _).mono ?_); rintro e w9 ⟨rfl, rfl⟩) | ((with_reducible refine (IT.out _).mono ?_); rintro e w9 ⟨rfl, rfl⟩))
                have QZ := Lib.hid (set6_new (u0 := .bool true) (u1 := .int .i64 v) (u2 := .int .i64 t) (u3 := .string T) (u4 := .slice pa pn pc) (u5 := .slice ca cn cc) q1)
                have G6 := set6_grown (w := w2) (B := w.heap.size + 1) (u0 := .bool true) (u1 := .int .i64 v) (u2 := .int .i64 t) (u3 := .string T) (u4 := .slice pa pn pc) (u5 := .slice ca cn cc)
                have FB := Lib.hid (below_grownB bel G6 bel.size (by omega))
                (try simp only [Exit.inBlock, Exit.then])
                have P6 := rdt_six (one_slice _ _ _) (one_slice _ _ _) q1 G6 (RP.out _ bel)
                have C6 := rdt_six (one_slice _ _ _) (one_slice _ _ _) q1 G6 (RC.out _ bel)
                refine bodyPost_ret (results_cell_row_tmp rfl _ _ _ _ _ (0, 0) _ rfl QZ.out Tryd.underlying24 rfl slot_size) rfl ?_
                show Z (.returned _) _
                rw [HZ.out, HRE.out, if_pos HE.out]
                exact ⟨pa, pn, pc, ca, cn, cc, by rw [HT.out, HE.out]; rfl, ⟨P6, C6, HBT.out⟩, FB.out⟩
        · have db3 : decide (n ≤ 65536) = false := decide_eq_false hb3
          have HE := Lib.hid (show E = 1 by rw [HEE.out]; simp [db3])
          clear db3
          go_enter Tryd.func11, Tryd.ntmps11
          go_wp2_with (first | ((with_reducible refine (MY.out _ bel).mono ?_); rintro e w2 ⟨rfl, g⟩; (replace q0 := (g.block _ (lt_of_block q0)).trans q0); (replace q1 := (g.block _ (lt_of_block q1)).trans q1); (clear d0 d1 d2 d3 d4 d5 df z0 z1 z2 z3 z4 z5 zf); (obtain ⟨d0, d1, d2, d3, d4, d5, df⟩ := block_cells6 q0); (obtain ⟨z0, z1, z2, z3, z4, z5, zf⟩ := block_cells6 q1); (replace bel := chain bel g); clear g) | ((with_reducible refine (IV.out _).mono ?_); rintro e w9 ⟨rfl, rfl⟩) | ((with_reducible refine (IT.out _).mono ?_); rintro e w9 ⟨rfl, rfl⟩))
          have QZ := Lib.hid (set6_new (u0 := .bool false) (u1 := .int .i64 0) (u2 := .int .i64 0) (u3 := .string ⟨#[]⟩) (u4 := .slice none 0 0) (u5 := .slice none 0 0) q1)
          have G6 := set6_grown (w := w2) (B := w.heap.size + 1) (u0 := .bool false) (u1 := .int .i64 0) (u2 := .int .i64 0) (u3 := .string ⟨#[]⟩) (u4 := .slice none 0 0) (u5 := .slice none 0 0)
          have FB := Lib.hid (below_grownB bel G6 bel.size (by omega))
          (try simp only [Exit.inBlock, Exit.then])
          refine bodyPost_ret (results_cell_row_tmp rfl _ _ _ _ _ (0, 0) _ rfl QZ.out Tryd.underlying24 rfl slot_size) rfl ?_
          show Z (.returned _) _
          rw [HZ.out, HRE.out, if_neg (by rw [HE.out]; decide)]
          exact ⟨none, 0, 0, none, 0, 0, by rw [HE.out]; rfl, rds0 _, FB.out⟩
end Go.Proofs.YtgmblgpfgdfnaaaDoor
