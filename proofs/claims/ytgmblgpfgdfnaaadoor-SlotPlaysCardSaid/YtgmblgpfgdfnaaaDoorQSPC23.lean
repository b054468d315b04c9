/- Slots: Propose, by the program. Written by wip/tools/gen29k.py. -/
import Derived.Test.YtgmblgpfgdfnaaaDoorQSPC22
namespace Go.Proofs.YtgmblgpfgdfnaaaDoor
open Go Go.RowKit
set_option linter.unusedVariables false
set_option linter.unusedSimpArgs false
set_option maxRecDepth 100000
theorem gives_zeroP {w w' : World} {s : Sl} {code n : Nat} {i : Int} (hs : s = sl0) (hc : code = n) (hi : i = (n : Int)) (g : Below w.heap.size w w') : GivesP w s code (.returned (.tuple #[.agg #[.bool false, .int .i64 0, .int .i64 0, .string ⟨#[]⟩, .slice none 0 0, .slice none 0 0], .int .i64 i])) w' := by
  subst hs; subst hc; subst hi
  exact ⟨none, 0, 0, none, 0, 0, rfl, owns0 _ _, g⟩
theorem eq_strs (a b : List UInt8) : ((str a).toList == (str b).toList) = decide (a = b) := by
  have e : ∀ l, (str l).toList = l := fun l => by rw [ByteArray.toList_eq]; exact str_toList l
  rw [e, e, Bool.eq_iff_iff]; simp
set_option maxHeartbeats 6000000 in
theorem propose_any (s : Sl) (vP vC : Value) (v t : Int) (tb : List UInt8) (w : World) (h : RdS w s vP vC) (hb : tb.length ≤ maxLen) : Calls Tryd.prog 8 #[sV s vP vC, .int .i64 v, .int .i64 t, .string (str tb)] w (GivesP w (propR s v t tb) (propE s v t tb)) := by
  have MY0 := fun w' (g : Below w.heap.size w w') => slMay_any s vP vC w' (h.below g (Nat.le_refl _))
  have IV := Lib.hid (fun w' => isNum_any v w')
  have IT := Lib.hid (fun w' => isNum_any t w')
  have CO0 := fun (hm : mayS s = true) w' (g : Below w.heap.size w w') => copied_any s vP vC w' (h.below g (Nat.le_refl _)) (by have := are_len (mayS_are hm).1; omega) (by have := are_len (mayS_are hm).2.1; omega)
  have HRE0 := show propR s v t tb = if propE s v t tb = 0 then ⟨true, v, t, tb, s.ps, s.cs⟩ else sl0 from rfl
  obtain ⟨E, hE⟩ : ∃ E, E = propE s v t tb := ⟨_, rfl⟩
  obtain ⟨R, hR⟩ : ∃ R, R = propR s v t tb := ⟨_, rfl⟩
  rw [← hE, ← hR] at HRE0
  rw [← hE, ← hR]
  unfold propE at hE
  obtain ⟨Z, hZ⟩ : ∃ Z, Z = GivesP w R E := ⟨_, rfl⟩
  rw [← hZ]
  have HZ := Lib.hid hZ
  obtain ⟨has, vw, tm, body, ps, cs⟩ := s
  unfold sV at MY0 CO0 ⊢
  simp only at MY0 CO0 hE HRE0 ⊢
  have HRE := Lib.hid HRE0
  obtain ⟨m, hm⟩ : ∃ m, m = mayS ⟨has, vw, tm, body, ps, cs⟩ := ⟨_, rfl⟩
  obtain ⟨b1, hb1⟩ : ∃ b, b = numB v := ⟨_, rfl⟩
  obtain ⟨b2, hb2⟩ : ∃ b, b = numB t := ⟨_, rfl⟩
  obtain ⟨x3, hz3⟩ : ∃ b, decide (body = tb) = b := ⟨_, rfl⟩
  have y3 := (eq_strs body tb).trans hz3
  obtain ⟨n, hn⟩ : ∃ n, n = tb.length := ⟨_, rfl⟩
  have y4 : (str tb).size = n := by rw [hn]; exact str_size tb
  have CO1 := fun (q : m = true) => CO0 (by rw [← hm]; exact q)
  rw [← hm] at MY0
  rw [← hm, ← hb1, ← hb2, hz3, ← hn] at hE
  rw [← hb1] at IV
  rw [← hb2] at IT
  have HBT := Lib.hid hb
  have hnb : n ≤ 9223372036854775807 := by rw [hn]; unfold maxLen at hb; omega
  obtain ⟨S, hS⟩ : ∃ S, S = str body := ⟨_, rfl⟩
  obtain ⟨T, hT⟩ : ∃ T, T = str tb := ⟨_, rfl⟩
  rw [← hS] at MY0 CO1 y3
  rw [← hT] at y3 y4
  rw [← hS, ← hT]
  have HT := Lib.hid hT
  have HEE := Lib.hid hE
  have MY := Lib.hid MY0
  have COH := Lib.hid CO1
  have hal := two_allocs w (.cells #[.bool has, .int .i64 vw, .int .i64 tm, .string S, vP, vC] 24) (.cells #[.bool false, .int .i64 0, .int .i64 0, .string ⟨#[]⟩, .slice none 0 0, .slice none 0 0] 24)
  have q0 := hal.1
  have q1 := hal.2.1
  have bel := ((Below.refl w.heap.size w).alloc (Nat.le_refl _) (.cells #[.bool has, .int .i64 vw, .int .i64 tm, .string S, vP, vC] 24)).alloc (by simp) (.cells #[.bool false, .int .i64 0, .int .i64 0, .string ⟨#[]⟩, .slice none 0 0, .slice none 0 0] 24)
  obtain ⟨d0, d1, d2, d3, d4, d5, df⟩ := block_cells6 q0
  obtain ⟨z0, z1, z2, z3, z4, z5, zf⟩ := block_cells6 q1
  clear h MY0 CO0 CO1 hR hZ hE hm hb1 hb2 hz3 hn hS hT hb hal HRE0
  cases m with
  | false =>
    have HE := Lib.hid (show E = 1 by rw [HEE.out]; simp [])
    go_enter Tryd.func8, Tryd.ntmps8
    go_wp2_with (first | ((with_reducible refine (MY.out _ bel).mono ?_); rintro e w2 ⟨rfl, g⟩; (replace q0 := (g.block _ (lt_of_block q0)).trans q0); (replace q1 := (g.block _ (lt_of_block q1)).trans q1); (clear d0 d1 d2 d3 d4 d5 df z0 z1 z2 z3 z4 z5 zf); (obtain ⟨d0, d1, d2, d3, d4, d5, df⟩ := block_cells6 q0); (obtain ⟨z0, z1, z2, z3, z4, z5, zf⟩ := block_cells6 q1); (replace bel := chain bel g); clear g) | ((with_reducible refine (IV.out _).mono ?_); rintro e w9 ⟨rfl, rfl⟩) | ((with_reducible refine (IT.out _).mono ?_); rintro e w9 ⟨rfl, rfl⟩))
    have QZ := Lib.hid (set6_new (u0 := .bool false) (u1 := .int .i64 0) (u2 := .int .i64 0) (u3 := .string ⟨#[]⟩) (u4 := .slice none 0 0) (u5 := .slice none 0 0) q1)
    have FB := Lib.hid (below_grownB bel (set6_grown (w := _) (B := w.heap.size + 1) (u0 := .bool false) (u1 := .int .i64 0) (u2 := .int .i64 0) (u3 := .string ⟨#[]⟩) (u4 := .slice none 0 0) (u5 := .slice none 0 0)) bel.size (by omega))
    (try simp only [Exit.inBlock, Exit.then])
    refine bodyPost_ret (results_cell_row_tmp rfl _ _ _ _ _ (0, 0) _ rfl QZ.out Tryd.underlying24 rfl slot_size) rfl ?_
    show Z (.returned _) _
    rw [HZ.out]
    exact gives_zeroP (by rw [HRE.out, if_neg (by rw [HE.out]; decide)]) HE.out rfl FB.out
  | true =>
    cases b1 with
    | false =>
      have HE := Lib.hid (show E = 1 by rw [HEE.out]; simp [])
      go_enter Tryd.func8, Tryd.ntmps8
      go_wp2_with (first | ((with_reducible refine (MY.out _ bel).mono ?_); rintro e w2 ⟨rfl, g⟩; (replace q0 := (g.block _ (lt_of_block q0)).trans q0); (replace q1 := (g.block _ (lt_of_block q1)).trans q1); (clear d0 d1 d2 d3 d4 d5 df z0 z1 z2 z3 z4 z5 zf); (obtain ⟨d0, d1, d2, d3, d4, d5, df⟩ := block_cells6 q0); (obtain ⟨z0, z1, z2, z3, z4, z5, zf⟩ := block_cells6 q1); (replace bel := chain bel g); clear g) | ((with_reducible refine (IV.out _).mono ?_); rintro e w9 ⟨rfl, rfl⟩) | ((with_reducible refine (IT.out _).mono ?_); rintro e w9 ⟨rfl, rfl⟩))
      have QZ := Lib.hid (set6_new (u0 := .bool false) (u1 := .int .i64 0) (u2 := .int .i64 0) (u3 := .string ⟨#[]⟩) (u4 := .slice none 0 0) (u5 := .slice none 0 0) q1)
      have FB := Lib.hid (below_grownB bel (set6_grown (w := _) (B := w.heap.size + 1) (u0 := .bool false) (u1 := .int .i64 0) (u2 := .int .i64 0) (u3 := .string ⟨#[]⟩) (u4 := .slice none 0 0) (u5 := .slice none 0 0)) bel.size (by omega))
      (try simp only [Exit.inBlock, Exit.then])
      refine bodyPost_ret (results_cell_row_tmp rfl _ _ _ _ _ (0, 0) _ rfl QZ.out Tryd.underlying24 rfl slot_size) rfl ?_
      show Z (.returned _) _
      rw [HZ.out]
      exact gives_zeroP (by rw [HRE.out, if_neg (by rw [HE.out]; decide)]) HE.out rfl FB.out
    | true =>
      cases b2 with
      | false =>
        have HE := Lib.hid (show E = 1 by rw [HEE.out]; simp [])
        go_enter Tryd.func8, Tryd.ntmps8
        go_wp2_with (first | ((with_reducible refine (MY.out _ bel).mono ?_); rintro e w2 ⟨rfl, g⟩; (replace q0 := (g.block _ (lt_of_block q0)).trans q0); (replace q1 := (g.block _ (lt_of_block q1)).trans q1); (clear d0 d1 d2 d3 d4 d5 df z0 z1 z2 z3 z4 z5 zf); (obtain ⟨d0, d1, d2, d3, d4, d5, df⟩ := block_cells6 q0); (obtain ⟨z0, z1, z2, z3, z4, z5, zf⟩ := block_cells6 q1); (replace bel := chain bel g); clear g) | ((with_reducible refine (IV.out _).mono ?_); rintro e w9 ⟨rfl, rfl⟩) | ((with_reducible refine (IT.out _).mono ?_); rintro e w9 ⟨rfl, rfl⟩))
        have QZ := Lib.hid (set6_new (u0 := .bool false) (u1 := .int .i64 0) (u2 := .int .i64 0) (u3 := .string ⟨#[]⟩) (u4 := .slice none 0 0) (u5 := .slice none 0 0) q1)
        have FB := Lib.hid (below_grownB bel (set6_grown (w := _) (B := w.heap.size + 1) (u0 := .bool false) (u1 := .int .i64 0) (u2 := .int .i64 0) (u3 := .string ⟨#[]⟩) (u4 := .slice none 0 0) (u5 := .slice none 0 0)) bel.size (by omega))
        (try simp only [Exit.inBlock, Exit.then])
        refine bodyPost_ret (results_cell_row_tmp rfl _ _ _ _ _ (0, 0) _ rfl QZ.out Tryd.underlying24 rfl slot_size) rfl ?_
        show Z (.returned _) _
        rw [HZ.out]
        exact gives_zeroP (by rw [HRE.out, if_neg (by rw [HE.out]; decide)]) HE.out rfl FB.out
      | true =>
        by_cases hb3 : n ≤ 65536
        · have db3 : decide (n ≤ 65536) = true := decide_eq_true hb3
          cases has with
          | false =>
            have HE := Lib.hid (show E = 0 by rw [HEE.out]; simp [db3])
            clear db3
            have CO := Lib.hid (COH.out rfl)
            clear COH
            go_enter Tryd.func8, Tryd.ntmps8
            go_wp2_with (first | ((with_reducible refine (MY.out _ bel).mono ?_); rintro e w2 ⟨rfl, g⟩; (replace q0 := (g.block _ (lt_of_block q0)).trans q0); (replace q1 := (g.block _ (lt_of_block q1)).trans q1); (clear d0 d1 d2 d3 d4 d5 df z0 z1 z2 z3 z4 z5 zf); (obtain ⟨d0, d1, d2, d3, d4, d5, df⟩ := block_cells6 q0); (obtain ⟨z0, z1, z2, z3, z4, z5, zf⟩ := block_cells6 q1); (replace bel := chain bel g); clear g) | ((with_reducible refine (IV.out _).mono ?_); rintro e w9 ⟨rfl, rfl⟩) | ((with_reducible refine (IT.out _).mono ?_); rintro e w9 ⟨rfl, rfl⟩))
            ((refine (CO.out _ bel).mono ?_); rintro e w4 ⟨v2, v3, rfl, TW, g⟩; (obtain ⟨a2, n2, k2, rfl⟩ := own_val TW.p); (obtain ⟨a3, n3, k3, rfl⟩ := own_val TW.c); (have q4 := (g.block _ (lt_of_block q0)).trans q0); (have z4' := (g.block _ (lt_of_block q1)).trans q1); (have hbs := lt_of_block q1); (have TWH := Lib.hid TW); (have BL4 := Lib.hid (chain bel g)); clear g TW bel q0 q1)
            simp only []
            rename_i hKK
            refine hKK _ _ ?_
            ((have hszC : (Tryd.prog.info? 24).map (·.size) = some ((#[.bool false, .int .i64 vw, .int .i64 tm, .string S, .slice a2 n2 k2, .slice a3 n3 k3] : Array Value)).size := slot_size); (have holdC : ((#[.bool false, .int .i64 vw, .int .i64 tm, .string S, vP, vC] : Array Value)).size = ((#[.bool false, .int .i64 vw, .int .i64 tm, .string S, .slice a2 n2 k2, .slice a3 n3 k3] : Array Value)).size := rfl); (have h1C : ((#[.bool false, .int .i64 vw, .int .i64 tm, .string S, .slice a2 n2 k2, .slice a3 n3 k3] : Array Value)).all (·.oneCell') = true := (by simp [Value.oneCell'])); (refine wpList_store_row rfl 24 (.tmp 4) (.tmp 67) rfl _ #[.bool false, .int .i64 vw, .int .i64 tm, .string S, .slice a2 n2 k2, .slice a3 n3 k3] rfl rfl _ _ q4 hszC holdC h1C ?_); clear hszC holdC h1C; (have q5 := setRow_heap w4 w.heap.size _ #[.bool false, .int .i64 vw, .int .i64 tm, .string S, .slice a2 n2 k2, .slice a3 n3 k3] _ _ q4); (have z5' : (w4.setRow w.heap.size #[.bool false, .int .i64 vw, .int .i64 tm, .string S, .slice a2 n2 k2, .slice a3 n3 k3]).heap[w.heap.size + 1]? = _ := (setRow_other w4 w.heap.size (w.heap.size + 1) _ (by omega)).trans z4'); (have G5 : w4.grownBy (w4.setRow w.heap.size #[.bool false, .int .i64 vw, .int .i64 tm, .string S, .slice a2 n2 k2, .slice a3 n3 k3]) (some w.heap.size) := ⟨rfl, rfl, rfl, by simp [World.setRow], fun k _ hk => setRow_other w4 w.heap.size k _ (fun e => hk (by rw [e]))⟩); (obtain ⟨W5, hW5⟩ : ∃ W5, W5 = w4.setRow w.heap.size #[.bool false, .int .i64 vw, .int .i64 tm, .string S, .slice a2 n2 k2, .slice a3 n3 k3] := ⟨_, rfl⟩); rw [← hW5] at q5 z5' G5 ⊢; clear hW5; (clear d0 d1 d2 d3 d4 d5 df z0 z1 z2 z3 z4 z5 zf); (obtain ⟨d0, d1, d2, d3, d4, d5, df⟩ := block_cells6 q5); (obtain ⟨z0, z1, z2, z3, z4, z5, zf⟩ := block_cells6 z5'))
            go_wp2_with fail
            have QZ := Lib.hid (set6_new (u0 := .bool true) (u1 := .int .i64 v) (u2 := .int .i64 t) (u3 := .string T) (u4 := .slice a2 n2 k2) (u5 := .slice a3 n3 k3) ((set4_old (w := W5) (B := w.heap.size) (k := w.heap.size + 1) (u0 := .bool true) (u1 := .int .i64 v) (u2 := .int .i64 t) (u3 := .string T) (by omega)).trans z5'))
            refine bodyPost_ret (results_cell_row_tmp rfl _ _ _ _ _ (0, 0) _ rfl QZ.out Tryd.underlying24 rfl slot_size) rfl ?_
            show Z (.returned _) _
            rw [HZ.out]
            have g6 := grown_setB (i := 3) (u := .string T) (grown_setB (i := 2) (u := .int .i64 t) (grown_setB (i := 1) (u := .int .i64 v) (grown_setB (i := 0) (u := .bool true) G5)))
            have TW6 := (TWH.out.base (b := w.heap.size + 2) (by omega)).kept g6 (by omega)
            have hs4 : w.heap.size + 2 ≤ w4.heap.size := by have := lt_of_block z4'; omega
            have bl6 := below_grownB BL4.out g6 BL4.out.size (Nat.le_refl _)
            have g7 := set6_grown (w := (((W5.setCell ⟨w.heap.size, 0, none⟩ (.bool true)).setCell ⟨w.heap.size, 1, none⟩ (.int .i64 v)).setCell ⟨w.heap.size, 2, none⟩ (.int .i64 t)).setCell ⟨w.heap.size, 3, none⟩ (.string T)) (B := w.heap.size + 1) (u0 := .bool true) (u1 := .int .i64 v) (u2 := .int .i64 t) (u3 := .string T) (u4 := .slice a2 n2 k2) (u5 := .slice a3 n3 k3)
            have TW7 := TW6.kept g7 (by omega)
            rw [HRE.out, if_pos HE.out, HE.out]
            exact ⟨a2, n2, k2, a3, n3, k3, by rw [HT.out]; rfl, ⟨own_base TW7.p (by omega), own_base TW7.c (by omega), HBT.out⟩, below_grownB bl6 g7 bl6.size (by omega)⟩
          | true =>
            by_cases hg1 : v < vw
            · have dg1 : decide (v < vw) = true := decide_eq_true hg1
              have HE := Lib.hid (show E = 18 by rw [HEE.out]; simp [db3, dg1])
              clear db3
              clear dg1
              go_enter Tryd.func8, Tryd.ntmps8
              go_wp2_with (first | ((with_reducible refine (MY.out _ bel).mono ?_); rintro e w2 ⟨rfl, g⟩; (replace q0 := (g.block _ (lt_of_block q0)).trans q0); (replace q1 := (g.block _ (lt_of_block q1)).trans q1); (clear d0 d1 d2 d3 d4 d5 df z0 z1 z2 z3 z4 z5 zf); (obtain ⟨d0, d1, d2, d3, d4, d5, df⟩ := block_cells6 q0); (obtain ⟨z0, z1, z2, z3, z4, z5, zf⟩ := block_cells6 q1); (replace bel := chain bel g); clear g) | ((with_reducible refine (IV.out _).mono ?_); rintro e w9 ⟨rfl, rfl⟩) | ((with_reducible refine (IT.out _).mono ?_); rintro e w9 ⟨rfl, rfl⟩))
              have QZ := Lib.hid (set6_new (u0 := .bool false) (u1 := .int .i64 0) (u2 := .int .i64 0) (u3 := .string ⟨#[]⟩) (u4 := .slice none 0 0) (u5 := .slice none 0 0) q1)
              have FB := Lib.hid (below_grownB bel (set6_grown (w := _) (B := w.heap.size + 1) (u0 := .bool false) (u1 := .int .i64 0) (u2 := .int .i64 0) (u3 := .string ⟨#[]⟩) (u4 := .slice none 0 0) (u5 := .slice none 0 0)) bel.size (by omega))
              (try simp only [Exit.inBlock, Exit.then])
              refine bodyPost_ret (results_cell_row_tmp rfl _ _ _ _ _ (0, 0) _ rfl QZ.out Tryd.underlying24 rfl slot_size) rfl ?_
              show Z (.returned _) _
              rw [HZ.out]
              exact gives_zeroP (by rw [HRE.out, if_neg (by rw [HE.out]; decide)]) HE.out rfl FB.out
            · have dg1 : decide (v < vw) = false := decide_eq_false hg1
              by_cases he1 : vw = v
              · have de1 : decide (vw = v) = true := decide_eq_true he1
                have ee1 : (vw == v) = true := by simpa using he1
                by_cases he2 : tm = t
                · have de2 : decide (tm = t) = true := decide_eq_true he2
                  have ee2 : (tm == t) = true := by simpa using he2
                  cases x3 with
                  | false =>
                    have HE := Lib.hid (show E = 23 by rw [HEE.out]; simp [db3, dg1, de1, de2])
                    clear db3
                    clear dg1
                    clear he1 de1
                    clear he2 de2
                    go_enter Tryd.func8, Tryd.ntmps8
                    go_wp2_with (first | ((with_reducible refine (MY.out _ bel).mono ?_); rintro e w2 ⟨rfl, g⟩; (replace q0 := (g.block _ (lt_of_block q0)).trans q0); (replace q1 := (g.block _ (lt_of_block q1)).trans q1); (clear d0 d1 d2 d3 d4 d5 df z0 z1 z2 z3 z4 z5 zf); (obtain ⟨d0, d1, d2, d3, d4, d5, df⟩ := block_cells6 q0); (obtain ⟨z0, z1, z2, z3, z4, z5, zf⟩ := block_cells6 q1); (replace bel := chain bel g); clear g) | ((with_reducible refine (IV.out _).mono ?_); rintro e w9 ⟨rfl, rfl⟩) | ((with_reducible refine (IT.out _).mono ?_); rintro e w9 ⟨rfl, rfl⟩))
                    have QZ := Lib.hid (set6_new (u0 := .bool false) (u1 := .int .i64 0) (u2 := .int .i64 0) (u3 := .string ⟨#[]⟩) (u4 := .slice none 0 0) (u5 := .slice none 0 0) q1)
                    have FB := Lib.hid (below_grownB bel (set6_grown (w := _) (B := w.heap.size + 1) (u0 := .bool false) (u1 := .int .i64 0) (u2 := .int .i64 0) (u3 := .string ⟨#[]⟩) (u4 := .slice none 0 0) (u5 := .slice none 0 0)) bel.size (by omega))
                    (try simp only [Exit.inBlock, Exit.then])
                    refine bodyPost_ret (results_cell_row_tmp rfl _ _ _ _ _ (0, 0) _ rfl QZ.out Tryd.underlying24 rfl slot_size) rfl ?_
                    show Z (.returned _) _
                    rw [HZ.out]
                    exact gives_zeroP (by rw [HRE.out, if_neg (by rw [HE.out]; decide)]) HE.out rfl FB.out
                  | true =>
                    have HE := Lib.hid (show E = 16 by rw [HEE.out]; simp [db3, dg1, de1, de2])
                    clear db3
                    clear dg1
                    clear he1 de1
                    clear he2 de2
                    go_enter Tryd.func8, Tryd.ntmps8
                    go_wp2_with (first | ((with_reducible refine (MY.out _ bel).mono ?_); rintro e w2 ⟨rfl, g⟩; (replace q0 := (g.block _ (lt_of_block q0)).trans q0); (replace q1 := (g.block _ (lt_of_block q1)).trans q1); (clear d0 d1 d2 d3 d4 d5 df z0 z1 z2 z3 z4 z5 zf); (obtain ⟨d0, d1, d2, d3, d4, d5, df⟩ := block_cells6 q0); (obtain ⟨z0, z1, z2, z3, z4, z5, zf⟩ := block_cells6 q1); (replace bel := chain bel g); clear g) | ((with_reducible refine (IV.out _).mono ?_); rintro e w9 ⟨rfl, rfl⟩) | ((with_reducible refine (IT.out _).mono ?_); rintro e w9 ⟨rfl, rfl⟩))
                    have QZ := Lib.hid (set6_new (u0 := .bool false) (u1 := .int .i64 0) (u2 := .int .i64 0) (u3 := .string ⟨#[]⟩) (u4 := .slice none 0 0) (u5 := .slice none 0 0) q1)
                    have FB := Lib.hid (below_grownB bel (set6_grown (w := _) (B := w.heap.size + 1) (u0 := .bool false) (u1 := .int .i64 0) (u2 := .int .i64 0) (u3 := .string ⟨#[]⟩) (u4 := .slice none 0 0) (u5 := .slice none 0 0)) bel.size (by omega))
                    (try simp only [Exit.inBlock, Exit.then])
                    refine bodyPost_ret (results_cell_row_tmp rfl _ _ _ _ _ (0, 0) _ rfl QZ.out Tryd.underlying24 rfl slot_size) rfl ?_
                    show Z (.returned _) _
                    rw [HZ.out]
                    exact gives_zeroP (by rw [HRE.out, if_neg (by rw [HE.out]; decide)]) HE.out rfl FB.out
                · have de2 : decide (tm = t) = false := decide_eq_false he2
                  have ee2 : (tm == t) = false := by simpa using he2
                  have HE := Lib.hid (show E = 23 by rw [HEE.out]; simp [db3, dg1, de1, de2])
                  clear db3
                  clear dg1
                  clear he1 de1
                  clear he2 de2
                  go_enter Tryd.func8, Tryd.ntmps8
                  go_wp2_with (first | ((with_reducible refine (MY.out _ bel).mono ?_); rintro e w2 ⟨rfl, g⟩; (replace q0 := (g.block _ (lt_of_block q0)).trans q0); (replace q1 := (g.block _ (lt_of_block q1)).trans q1); (clear d0 d1 d2 d3 d4 d5 df z0 z1 z2 z3 z4 z5 zf); (obtain ⟨d0, d1, d2, d3, d4, d5, df⟩ := block_cells6 q0); (obtain ⟨z0, z1, z2, z3, z4, z5, zf⟩ := block_cells6 q1); (replace bel := chain bel g); clear g) | ((with_reducible refine (IV.out _).mono ?_); rintro e w9 ⟨rfl, rfl⟩) | ((with_reducible refine (IT.out _).mono ?_); rintro e w9 ⟨rfl, rfl⟩))
                  have QZ := Lib.hid (set6_new (u0 := .bool false) (u1 := .int .i64 0) (u2 := .int .i64 0) (u3 := .string ⟨#[]⟩) (u4 := .slice none 0 0) (u5 := .slice none 0 0) q1)
                  have FB := Lib.hid (below_grownB bel (set6_grown (w := _) (B := w.heap.size + 1) (u0 := .bool false) (u1 := .int .i64 0) (u2 := .int .i64 0) (u3 := .string ⟨#[]⟩) (u4 := .slice none 0 0) (u5 := .slice none 0 0)) bel.size (by omega))
                  (try simp only [Exit.inBlock, Exit.then])
                  refine bodyPost_ret (results_cell_row_tmp rfl _ _ _ _ _ (0, 0) _ rfl QZ.out Tryd.underlying24 rfl slot_size) rfl ?_
                  show Z (.returned _) _
                  rw [HZ.out]
                  exact gives_zeroP (by rw [HRE.out, if_neg (by rw [HE.out]; decide)]) HE.out rfl FB.out
              · have de1 : decide (vw = v) = false := decide_eq_false he1
                have ee1 : (vw == v) = false := by simpa using he1
                have HE := Lib.hid (show E = 0 by rw [HEE.out]; simp [db3, dg1, de1])
                clear db3
                clear dg1
                clear he1 de1
                have CO := Lib.hid (COH.out rfl)
                clear COH
                go_enter Tryd.func8, Tryd.ntmps8
                go_wp2_with (first | ((with_reducible refine (MY.out _ bel).mono ?_); rintro e w2 ⟨rfl, g⟩; (replace q0 := (g.block _ (lt_of_block q0)).trans q0); (replace q1 := (g.block _ (lt_of_block q1)).trans q1); (clear d0 d1 d2 d3 d4 d5 df z0 z1 z2 z3 z4 z5 zf); (obtain ⟨d0, d1, d2, d3, d4, d5, df⟩ := block_cells6 q0); (obtain ⟨z0, z1, z2, z3, z4, z5, zf⟩ := block_cells6 q1); (replace bel := chain bel g); clear g) | ((with_reducible refine (IV.out _).mono ?_); rintro e w9 ⟨rfl, rfl⟩) | ((with_reducible refine (IT.out _).mono ?_); rintro e w9 ⟨rfl, rfl⟩))
                ((refine (CO.out _ bel).mono ?_); rintro e w4 ⟨v2, v3, rfl, TW, g⟩; (obtain ⟨a2, n2, k2, rfl⟩ := own_val TW.p); (obtain ⟨a3, n3, k3, rfl⟩ := own_val TW.c); (have q4 := (g.block _ (lt_of_block q0)).trans q0); (have z4' := (g.block _ (lt_of_block q1)).trans q1); (have hbs := lt_of_block q1); (have TWH := Lib.hid TW); (have BL4 := Lib.hid (chain bel g)); clear g TW bel q0 q1)
                simp only []
                rename_i hKK
                refine hKK _ _ ?_
                ((have hszC : (Tryd.prog.info? 24).map (·.size) = some ((#[.bool true, .int .i64 vw, .int .i64 tm, .string S, .slice a2 n2 k2, .slice a3 n3 k3] : Array Value)).size := slot_size); (have holdC : ((#[.bool true, .int .i64 vw, .int .i64 tm, .string S, vP, vC] : Array Value)).size = ((#[.bool true, .int .i64 vw, .int .i64 tm, .string S, .slice a2 n2 k2, .slice a3 n3 k3] : Array Value)).size := rfl); (have h1C : ((#[.bool true, .int .i64 vw, .int .i64 tm, .string S, .slice a2 n2 k2, .slice a3 n3 k3] : Array Value)).all (·.oneCell') = true := (by simp [Value.oneCell'])); (refine wpList_store_row rfl 24 (.tmp 4) (.tmp 67) rfl _ #[.bool true, .int .i64 vw, .int .i64 tm, .string S, .slice a2 n2 k2, .slice a3 n3 k3] rfl rfl _ _ q4 hszC holdC h1C ?_); clear hszC holdC h1C; (have q5 := setRow_heap w4 w.heap.size _ #[.bool true, .int .i64 vw, .int .i64 tm, .string S, .slice a2 n2 k2, .slice a3 n3 k3] _ _ q4); (have z5' : (w4.setRow w.heap.size #[.bool true, .int .i64 vw, .int .i64 tm, .string S, .slice a2 n2 k2, .slice a3 n3 k3]).heap[w.heap.size + 1]? = _ := (setRow_other w4 w.heap.size (w.heap.size + 1) _ (by omega)).trans z4'); (have G5 : w4.grownBy (w4.setRow w.heap.size #[.bool true, .int .i64 vw, .int .i64 tm, .string S, .slice a2 n2 k2, .slice a3 n3 k3]) (some w.heap.size) := ⟨rfl, rfl, rfl, by simp [World.setRow], fun k _ hk => setRow_other w4 w.heap.size k _ (fun e => hk (by rw [e]))⟩); (obtain ⟨W5, hW5⟩ : ∃ W5, W5 = w4.setRow w.heap.size #[.bool true, .int .i64 vw, .int .i64 tm, .string S, .slice a2 n2 k2, .slice a3 n3 k3] := ⟨_, rfl⟩); rw [← hW5] at q5 z5' G5 ⊢; clear hW5; (clear d0 d1 d2 d3 d4 d5 df z0 z1 z2 z3 z4 z5 zf); (obtain ⟨d0, d1, d2, d3, d4, d5, df⟩ := block_cells6 q5); (obtain ⟨z0, z1, z2, z3, z4, z5, zf⟩ := block_cells6 z5'))
                go_wp2_with fail
                have QZ := Lib.hid (set6_new (u0 := .bool true) (u1 := .int .i64 v) (u2 := .int .i64 t) (u3 := .string T) (u4 := .slice a2 n2 k2) (u5 := .slice a3 n3 k3) ((set4_old (w := W5) (B := w.heap.size) (k := w.heap.size + 1) (u0 := .bool true) (u1 := .int .i64 v) (u2 := .int .i64 t) (u3 := .string T) (by omega)).trans z5'))
                refine bodyPost_ret (results_cell_row_tmp rfl _ _ _ _ _ (0, 0) _ rfl QZ.out Tryd.underlying24 rfl slot_size) rfl ?_
                show Z (.returned _) _
                rw [HZ.out]
                have g6 := grown_setB (i := 3) (u := .string T) (grown_setB (i := 2) (u := .int .i64 t) (grown_setB (i := 1) (u := .int .i64 v) (grown_setB (i := 0) (u := .bool true) G5)))
                have TW6 := (TWH.out.base (b := w.heap.size + 2) (by omega)).kept g6 (by omega)
                have hs4 : w.heap.size + 2 ≤ w4.heap.size := by have := lt_of_block z4'; omega
                have bl6 := below_grownB BL4.out g6 BL4.out.size (Nat.le_refl _)
                have g7 := set6_grown (w := (((W5.setCell ⟨w.heap.size, 0, none⟩ (.bool true)).setCell ⟨w.heap.size, 1, none⟩ (.int .i64 v)).setCell ⟨w.heap.size, 2, none⟩ (.int .i64 t)).setCell ⟨w.heap.size, 3, none⟩ (.string T)) (B := w.heap.size + 1) (u0 := .bool true) (u1 := .int .i64 v) (u2 := .int .i64 t) (u3 := .string T) (u4 := .slice a2 n2 k2) (u5 := .slice a3 n3 k3)
                have TW7 := TW6.kept g7 (by omega)
                rw [HRE.out, if_pos HE.out, HE.out]
                exact ⟨a2, n2, k2, a3, n3, k3, by rw [HT.out]; rfl, ⟨own_base TW7.p (by omega), own_base TW7.c (by omega), HBT.out⟩, below_grownB bl6 g7 bl6.size (by omega)⟩
        · have db3 : decide (n ≤ 65536) = false := decide_eq_false hb3
          have HE := Lib.hid (show E = 1 by rw [HEE.out]; simp [db3])
          clear db3
          go_enter Tryd.func8, Tryd.ntmps8
          go_wp2_with (first | ((with_reducible refine (MY.out _ bel).mono ?_); rintro e w2 ⟨rfl, g⟩; (replace q0 := (g.block _ (lt_of_block q0)).trans q0); (replace q1 := (g.block _ (lt_of_block q1)).trans q1); (clear d0 d1 d2 d3 d4 d5 df z0 z1 z2 z3 z4 z5 zf); (obtain ⟨d0, d1, d2, d3, d4, d5, df⟩ := block_cells6 q0); (obtain ⟨z0, z1, z2, z3, z4, z5, zf⟩ := block_cells6 q1); (replace bel := chain bel g); clear g) | ((with_reducible refine (IV.out _).mono ?_); rintro e w9 ⟨rfl, rfl⟩) | ((with_reducible refine (IT.out _).mono ?_); rintro e w9 ⟨rfl, rfl⟩))
          have QZ := Lib.hid (set6_new (u0 := .bool false) (u1 := .int .i64 0) (u2 := .int .i64 0) (u3 := .string ⟨#[]⟩) (u4 := .slice none 0 0) (u5 := .slice none 0 0) q1)
          have FB := Lib.hid (below_grownB bel (set6_grown (w := _) (B := w.heap.size + 1) (u0 := .bool false) (u1 := .int .i64 0) (u2 := .int .i64 0) (u3 := .string ⟨#[]⟩) (u4 := .slice none 0 0) (u5 := .slice none 0 0)) bel.size (by omega))
          (try simp only [Exit.inBlock, Exit.then])
          refine bodyPost_ret (results_cell_row_tmp rfl _ _ _ _ _ (0, 0) _ rfl QZ.out Tryd.underlying24 rfl slot_size) rfl ?_
          show Z (.returned _) _
          rw [HZ.out]
          exact gives_zeroP (by rw [HRE.out, if_neg (by rw [HE.out]; decide)]) HE.out rfl FB.out
end Go.Proofs.YtgmblgpfgdfnaaaDoor
