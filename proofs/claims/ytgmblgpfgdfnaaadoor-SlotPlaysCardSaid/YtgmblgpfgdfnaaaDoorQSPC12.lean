/- Slots: in memory; which may be, by the program and by the document. Written by wip/tools/gen29c.py. -/
import Derived.Test.YtgmblgpfgdfnaaaDoorQSPC11
namespace Go.Proofs.YtgmblgpfgdfnaaaDoor
open Go Go.RowKit
set_option linter.unusedVariables false
set_option linter.unusedSimpArgs false
set_option maxRecDepth 100000
def sV (s : Sl) (vP vC : Value) : Value := .agg #[.bool s.has, .int .i64 s.vw, .int .i64 s.tm, .string (str s.body), vP, vC]
/-- A slot as it lies in memory: its lists of votes. -/
structure RdS (w : World) (s : Sl) (vP vC : Value) : Prop where
  p : RdT w vP s.ps
  c : RdT w vC s.cs
  b : s.body.length ≤ maxLen
theorem RdS.below {w w' : World} {s : Sl} {vP vC : Value} (h : RdS w s vP vC) {B : Nat} (hb : Below B w w') (hB : w.heap.size ≤ B) : RdS w' s vP vC := ⟨h.p.below hb hB, h.c.below hb hB, h.b⟩
theorem rds0 (w : World) : RdS w sl0 (.slice none 0 0) (.slice none 0 0) := ⟨rdk_nil w, rdk_nil w, Nat.zero_le _⟩
theorem empty_str {l : List UInt8} {E : Bool} (h : decide (l = []) = E) : (str l).toList.isEmpty = E ∧ ((str l).toList == []) = E ∧ ((str l).toList == (⟨#[]⟩ : ByteArray).toList) = E := by
  have e : (str l).toList = l := by rw [ByteArray.toList_eq]; exact str_toList l
  have e2 : (⟨#[]⟩ : ByteArray).toList = [] := by rw [ByteArray.toList_eq]
  subst h
  rw [e, e2]
  cases l <;> simp
set_option maxHeartbeats 1000000 in
theorem slMay_any (s : Sl) (vP vC : Value) (w : World) (h : RdS w s vP vC) : Calls Tryd.prog 15 #[sV s vP vC] w fun e w' => e = .returned (.bool (mayS s)) ∧ Below w.heap.size w w' := by
  obtain ⟨has, vw, tm, body, ps, cs⟩ := s
  have IV0 := fun w => isNum_any vw w
  have IT0 := fun w => isNum_any tm w
  have IP0 := fun w' (g : Below w.heap.size w w') => areVotes_any vP ps w' (h.p.below g (Nat.le_refl _))
  have IC0 := fun w' (g : Below w.heap.size w w') => areVotes_any vC cs w' (h.c.below g (Nat.le_refl _))
  have hbl := h.b
  simp only at hbl
  unfold maxLen at hbl
  obtain ⟨R, hR⟩ : ∃ R, R = mayS ⟨has, vw, tm, body, ps, cs⟩ := ⟨_, rfl⟩
  rw [← hR]
  unfold mayS at hR
  simp only at hR
  obtain ⟨b1, hb1⟩ : ∃ b, b = numB vw := ⟨_, rfl⟩
  obtain ⟨b2, hb2⟩ : ∃ b, b = numB tm := ⟨_, rfl⟩
  obtain ⟨b4, hb4⟩ : ∃ b, b = areB ps := ⟨_, rfl⟩
  obtain ⟨b5, hb5⟩ : ∃ b, b = areB cs := ⟨_, rfl⟩
  obtain ⟨z3, hz3⟩ : ∃ b, decide (body = []) = b := ⟨_, rfl⟩
  obtain ⟨n, hn⟩ : ∃ n, n = body.length := ⟨_, rfl⟩
  obtain ⟨y1, y2, y3⟩ := empty_str hz3
  have y4 : (str body).size = n := by rw [hn]; exact str_size body
  rw [← hb1] at IV0 hR
  rw [← hb2] at IT0 hR
  rw [← hb4] at IP0 hR
  rw [← hb5] at IC0 hR
  rw [hz3, ← hn] at hR
  rw [← hn] at hbl
  have IV := Lib.hid IV0
  have IT := Lib.hid IT0
  have IP := Lib.hid IP0
  have IC := Lib.hid IC0
  have HR := Lib.hid hR
  unfold sV
  simp only
  obtain ⟨S, hS⟩ : ∃ S, S = str body := ⟨_, rfl⟩
  rw [← hS] at y1 y2 y3 y4 ⊢
  have q0 := heap_alloc_new w (.cells #[.bool has, .int .i64 vw, .int .i64 tm, .string S, vP, vC] 24)
  have bel := (Below.refl w.heap.size w).alloc (Nat.le_refl _) (.cells #[.bool has, .int .i64 vw, .int .i64 tm, .string S, vP, vC] 24)
  clear h IV0 IT0 IP0 IC0 hR hb1 hb2 hb4 hb5 hz3 hn hS
  cases b1 with
  | false =>
    have RES := Lib.hid (show R = false by rw [HR.out]; simp [])
    go_enter Tryd.func15, Tryd.ntmps15
    go_wp2_with (first | ((with_reducible refine (IV.out _).mono ?_); rintro e w1 ⟨rfl, rfl⟩) | ((with_reducible refine (IT.out _).mono ?_); rintro e w1 ⟨rfl, rfl⟩) | ((with_reducible refine (IP.out _ bel).mono ?_); rintro e w2 ⟨rfl, g⟩; (have q0 := (g.block _ (lt_of_block q0)).trans q0); (obtain ⟨d0, d1, d2, d3, d4, d5, df⟩ := block_cells6 q0); (have bel := chain bel g); clear g) | ((with_reducible refine (IC.out _ bel).mono ?_); rintro e w3 ⟨rfl, g⟩; (have q0 := (g.block _ (lt_of_block q0)).trans q0); (obtain ⟨d0, d1, d2, d3, d4, d5, df⟩ := block_cells6 q0); (have bel := chain bel g); clear g))
    go_ret
    exact ⟨ret_b RES.out.symm, bel⟩
  | true =>
    cases b2 with
    | false =>
      have RES := Lib.hid (show R = false by rw [HR.out]; simp [])
      go_enter Tryd.func15, Tryd.ntmps15
      go_wp2_with (first | ((with_reducible refine (IV.out _).mono ?_); rintro e w1 ⟨rfl, rfl⟩) | ((with_reducible refine (IT.out _).mono ?_); rintro e w1 ⟨rfl, rfl⟩) | ((with_reducible refine (IP.out _ bel).mono ?_); rintro e w2 ⟨rfl, g⟩; (have q0 := (g.block _ (lt_of_block q0)).trans q0); (obtain ⟨d0, d1, d2, d3, d4, d5, df⟩ := block_cells6 q0); (have bel := chain bel g); clear g) | ((with_reducible refine (IC.out _ bel).mono ?_); rintro e w3 ⟨rfl, g⟩; (have q0 := (g.block _ (lt_of_block q0)).trans q0); (obtain ⟨d0, d1, d2, d3, d4, d5, df⟩ := block_cells6 q0); (have bel := chain bel g); clear g))
      go_ret
      exact ⟨ret_b RES.out.symm, bel⟩
    | true =>
      by_cases hb3 : n ≤ 65536
      · have db3 : decide (n ≤ 65536) = true := decide_eq_true hb3
        cases b4 with
        | false =>
          have RES := Lib.hid (show R = false by rw [HR.out]; simp [db3])
          clear db3
          go_enter Tryd.func15, Tryd.ntmps15
          go_wp2_with (first | ((with_reducible refine (IV.out _).mono ?_); rintro e w1 ⟨rfl, rfl⟩) | ((with_reducible refine (IT.out _).mono ?_); rintro e w1 ⟨rfl, rfl⟩) | ((with_reducible refine (IP.out _ bel).mono ?_); rintro e w2 ⟨rfl, g⟩; (have q0 := (g.block _ (lt_of_block q0)).trans q0); (obtain ⟨d0, d1, d2, d3, d4, d5, df⟩ := block_cells6 q0); (have bel := chain bel g); clear g) | ((with_reducible refine (IC.out _ bel).mono ?_); rintro e w3 ⟨rfl, g⟩; (have q0 := (g.block _ (lt_of_block q0)).trans q0); (obtain ⟨d0, d1, d2, d3, d4, d5, df⟩ := block_cells6 q0); (have bel := chain bel g); clear g))
          go_ret
          exact ⟨ret_b RES.out.symm, bel⟩
        | true =>
          cases b5 with
          | false =>
            have RES := Lib.hid (show R = false by rw [HR.out]; simp [db3])
            clear db3
            go_enter Tryd.func15, Tryd.ntmps15
            go_wp2_with (first | ((with_reducible refine (IV.out _).mono ?_); rintro e w1 ⟨rfl, rfl⟩) | ((with_reducible refine (IT.out _).mono ?_); rintro e w1 ⟨rfl, rfl⟩) | ((with_reducible refine (IP.out _ bel).mono ?_); rintro e w2 ⟨rfl, g⟩; (have q0 := (g.block _ (lt_of_block q0)).trans q0); (obtain ⟨d0, d1, d2, d3, d4, d5, df⟩ := block_cells6 q0); (have bel := chain bel g); clear g) | ((with_reducible refine (IC.out _ bel).mono ?_); rintro e w3 ⟨rfl, g⟩; (have q0 := (g.block _ (lt_of_block q0)).trans q0); (obtain ⟨d0, d1, d2, d3, d4, d5, df⟩ := block_cells6 q0); (have bel := chain bel g); clear g))
            go_ret
            exact ⟨ret_b RES.out.symm, bel⟩
          | true =>
            cases has with
            | false =>
              by_cases hz1 : vw = 0
              · have dz1 : decide (vw = 0) = true := decide_eq_true hz1
                have ez1 : (vw == 0) = true := by simpa using hz1
                clear hz1
                by_cases hz2 : tm = 0
                · have dz2 : decide (tm = 0) = true := decide_eq_true hz2
                  have ez2 : (tm == 0) = true := by simpa using hz2
                  clear hz2
                  cases z3 with
                  | false =>
                    have RES := Lib.hid (show R = false by rw [HR.out]; simp [db3, dz1, dz2])
                    clear db3 dz1 dz2
                    go_enter Tryd.func15, Tryd.ntmps15
                    go_wp2_with (first | ((with_reducible refine (IV.out _).mono ?_); rintro e w1 ⟨rfl, rfl⟩) | ((with_reducible refine (IT.out _).mono ?_); rintro e w1 ⟨rfl, rfl⟩) | ((with_reducible refine (IP.out _ bel).mono ?_); rintro e w2 ⟨rfl, g⟩; (have q0 := (g.block _ (lt_of_block q0)).trans q0); (obtain ⟨d0, d1, d2, d3, d4, d5, df⟩ := block_cells6 q0); (have bel := chain bel g); clear g) | ((with_reducible refine (IC.out _ bel).mono ?_); rintro e w3 ⟨rfl, g⟩; (have q0 := (g.block _ (lt_of_block q0)).trans q0); (obtain ⟨d0, d1, d2, d3, d4, d5, df⟩ := block_cells6 q0); (have bel := chain bel g); clear g))
                    go_ret
                    exact ⟨ret_b RES.out.symm, bel⟩
                  | true =>
                    have RES := Lib.hid (show R = true by rw [HR.out]; simp [db3, dz1, dz2])
                    clear db3 dz1 dz2
                    go_enter Tryd.func15, Tryd.ntmps15
                    go_wp2_with (first | ((with_reducible refine (IV.out _).mono ?_); rintro e w1 ⟨rfl, rfl⟩) | ((with_reducible refine (IT.out _).mono ?_); rintro e w1 ⟨rfl, rfl⟩) | ((with_reducible refine (IP.out _ bel).mono ?_); rintro e w2 ⟨rfl, g⟩; (have q0 := (g.block _ (lt_of_block q0)).trans q0); (obtain ⟨d0, d1, d2, d3, d4, d5, df⟩ := block_cells6 q0); (have bel := chain bel g); clear g) | ((with_reducible refine (IC.out _ bel).mono ?_); rintro e w3 ⟨rfl, g⟩; (have q0 := (g.block _ (lt_of_block q0)).trans q0); (obtain ⟨d0, d1, d2, d3, d4, d5, df⟩ := block_cells6 q0); (have bel := chain bel g); clear g))
                    go_ret
                    exact ⟨ret_b RES.out.symm, bel⟩
                · have dz2 : decide (tm = 0) = false := decide_eq_false hz2
                  have ez2 : (tm == 0) = false := by simpa using hz2
                  have RES := Lib.hid (show R = false by rw [HR.out]; simp [db3, dz1, dz2])
                  clear db3 dz1 dz2
                  go_enter Tryd.func15, Tryd.ntmps15
                  go_wp2_with (first | ((with_reducible refine (IV.out _).mono ?_); rintro e w1 ⟨rfl, rfl⟩) | ((with_reducible refine (IT.out _).mono ?_); rintro e w1 ⟨rfl, rfl⟩) | ((with_reducible refine (IP.out _ bel).mono ?_); rintro e w2 ⟨rfl, g⟩; (have q0 := (g.block _ (lt_of_block q0)).trans q0); (obtain ⟨d0, d1, d2, d3, d4, d5, df⟩ := block_cells6 q0); (have bel := chain bel g); clear g) | ((with_reducible refine (IC.out _ bel).mono ?_); rintro e w3 ⟨rfl, g⟩; (have q0 := (g.block _ (lt_of_block q0)).trans q0); (obtain ⟨d0, d1, d2, d3, d4, d5, df⟩ := block_cells6 q0); (have bel := chain bel g); clear g))
                  go_ret
                  exact ⟨ret_b RES.out.symm, bel⟩
              · have dz1 : decide (vw = 0) = false := decide_eq_false hz1
                have ez1 : (vw == 0) = false := by simpa using hz1
                have RES := Lib.hid (show R = false by rw [HR.out]; simp [db3, dz1])
                clear db3 dz1
                go_enter Tryd.func15, Tryd.ntmps15
                go_wp2_with (first | ((with_reducible refine (IV.out _).mono ?_); rintro e w1 ⟨rfl, rfl⟩) | ((with_reducible refine (IT.out _).mono ?_); rintro e w1 ⟨rfl, rfl⟩) | ((with_reducible refine (IP.out _ bel).mono ?_); rintro e w2 ⟨rfl, g⟩; (have q0 := (g.block _ (lt_of_block q0)).trans q0); (obtain ⟨d0, d1, d2, d3, d4, d5, df⟩ := block_cells6 q0); (have bel := chain bel g); clear g) | ((with_reducible refine (IC.out _ bel).mono ?_); rintro e w3 ⟨rfl, g⟩; (have q0 := (g.block _ (lt_of_block q0)).trans q0); (obtain ⟨d0, d1, d2, d3, d4, d5, df⟩ := block_cells6 q0); (have bel := chain bel g); clear g))
                go_ret
                exact ⟨ret_b RES.out.symm, bel⟩
            | true =>
              have RES := Lib.hid (show R = true by rw [HR.out]; simp [db3])
              clear db3
              go_enter Tryd.func15, Tryd.ntmps15
              go_wp2_with (first | ((with_reducible refine (IV.out _).mono ?_); rintro e w1 ⟨rfl, rfl⟩) | ((with_reducible refine (IT.out _).mono ?_); rintro e w1 ⟨rfl, rfl⟩) | ((with_reducible refine (IP.out _ bel).mono ?_); rintro e w2 ⟨rfl, g⟩; (have q0 := (g.block _ (lt_of_block q0)).trans q0); (obtain ⟨d0, d1, d2, d3, d4, d5, df⟩ := block_cells6 q0); (have bel := chain bel g); clear g) | ((with_reducible refine (IC.out _ bel).mono ?_); rintro e w3 ⟨rfl, g⟩; (have q0 := (g.block _ (lt_of_block q0)).trans q0); (obtain ⟨d0, d1, d2, d3, d4, d5, df⟩ := block_cells6 q0); (have bel := chain bel g); clear g))
              go_ret
              exact ⟨ret_b RES.out.symm, bel⟩
      · have db3 : decide (n ≤ 65536) = false := decide_eq_false hb3
        have RES := Lib.hid (show R = false by rw [HR.out]; simp [db3])
        clear db3
        go_enter Tryd.func15, Tryd.ntmps15
        go_wp2_with (first | ((with_reducible refine (IV.out _).mono ?_); rintro e w1 ⟨rfl, rfl⟩) | ((with_reducible refine (IT.out _).mono ?_); rintro e w1 ⟨rfl, rfl⟩) | ((with_reducible refine (IP.out _ bel).mono ?_); rintro e w2 ⟨rfl, g⟩; (have q0 := (g.block _ (lt_of_block q0)).trans q0); (obtain ⟨d0, d1, d2, d3, d4, d5, df⟩ := block_cells6 q0); (have bel := chain bel g); clear g) | ((with_reducible refine (IC.out _ bel).mono ?_); rintro e w3 ⟨rfl, g⟩; (have q0 := (g.block _ (lt_of_block q0)).trans q0); (obtain ⟨d0, d1, d2, d3, d4, d5, df⟩ := block_cells6 q0); (have bel := chain bel g); clear g))
        go_ret
        exact ⟨ret_b RES.out.symm, bel⟩
set_option maxHeartbeats 1000000 in
theorem refMay_any (s : Sl) (vP vC : Value) (w : World) (h : RdS w s vP vC) : Calls Tryd.prog 16 #[sV s vP vC] w fun e w' => e = .returned (.bool (mayS s)) ∧ Below w.heap.size w w' := by
  obtain ⟨has, vw, tm, body, ps, cs⟩ := s
  have IV0 := fun w => refNum_any vw w
  have IT0 := fun w => refNum_any tm w
  have IP0 := fun w' (g : Below w.heap.size w w') => refVotes_any vP ps w' (h.p.below g (Nat.le_refl _))
  have IC0 := fun w' (g : Below w.heap.size w w') => refVotes_any vC cs w' (h.c.below g (Nat.le_refl _))
  have hbl := h.b
  simp only at hbl
  unfold maxLen at hbl
  obtain ⟨R, hR⟩ : ∃ R, R = mayS ⟨has, vw, tm, body, ps, cs⟩ := ⟨_, rfl⟩
  rw [← hR]
  unfold mayS at hR
  simp only at hR
  obtain ⟨b1, hb1⟩ : ∃ b, b = numB vw := ⟨_, rfl⟩
  obtain ⟨b2, hb2⟩ : ∃ b, b = numB tm := ⟨_, rfl⟩
  obtain ⟨b4, hb4⟩ : ∃ b, b = areB ps := ⟨_, rfl⟩
  obtain ⟨b5, hb5⟩ : ∃ b, b = areB cs := ⟨_, rfl⟩
  obtain ⟨z3, hz3⟩ : ∃ b, decide (body = []) = b := ⟨_, rfl⟩
  obtain ⟨n, hn⟩ : ∃ n, n = body.length := ⟨_, rfl⟩
  obtain ⟨y1, y2, y3⟩ := empty_str hz3
  have y4 : (str body).size = n := by rw [hn]; exact str_size body
  rw [← hb1] at IV0 hR
  rw [← hb2] at IT0 hR
  rw [← hb4] at IP0 hR
  rw [← hb5] at IC0 hR
  rw [hz3, ← hn] at hR
  rw [← hn] at hbl
  have IV := Lib.hid IV0
  have IT := Lib.hid IT0
  have IP := Lib.hid IP0
  have IC := Lib.hid IC0
  have HR := Lib.hid hR
  unfold sV
  simp only
  obtain ⟨S, hS⟩ : ∃ S, S = str body := ⟨_, rfl⟩
  rw [← hS] at y1 y2 y3 y4 ⊢
  have q0 := heap_alloc_new w (.cells #[.bool has, .int .i64 vw, .int .i64 tm, .string S, vP, vC] 24)
  have bel := (Below.refl w.heap.size w).alloc (Nat.le_refl _) (.cells #[.bool has, .int .i64 vw, .int .i64 tm, .string S, vP, vC] 24)
  clear h IV0 IT0 IP0 IC0 hR hb1 hb2 hb4 hb5 hz3 hn hS
  cases has with
  | false =>
    by_cases hz1 : vw = 0
    · have dz1 : decide (vw = 0) = true := decide_eq_true hz1
      have ez1 : (vw == 0) = true := by simpa using hz1
      clear hz1
      by_cases hz2 : tm = 0
      · have dz2 : decide (tm = 0) = true := decide_eq_true hz2
        have ez2 : (tm == 0) = true := by simpa using hz2
        clear hz2
        cases z3 with
        | false =>
          have RES := Lib.hid (show R = false by rw [HR.out]; simp [dz1, dz2])
          clear dz1 dz2
          go_enter Tryd.func16, Tryd.ntmps16
          go_wp2_with (first | ((with_reducible refine (IV.out _).mono ?_); rintro e w1 ⟨rfl, rfl⟩) | ((with_reducible refine (IT.out _).mono ?_); rintro e w1 ⟨rfl, rfl⟩) | ((with_reducible refine (IP.out _ bel).mono ?_); rintro e w2 ⟨rfl, g⟩; (have q0 := (g.block _ (lt_of_block q0)).trans q0); (obtain ⟨d0, d1, d2, d3, d4, d5, df⟩ := block_cells6 q0); (have bel := chain bel g); clear g) | ((with_reducible refine (IC.out _ bel).mono ?_); rintro e w3 ⟨rfl, g⟩; (have q0 := (g.block _ (lt_of_block q0)).trans q0); (obtain ⟨d0, d1, d2, d3, d4, d5, df⟩ := block_cells6 q0); (have bel := chain bel g); clear g))
          go_ret
          exact ⟨ret_b RES.out.symm, bel⟩
        | true =>
          cases b1 with
          | false =>
            have RES := Lib.hid (show R = false by rw [HR.out]; simp [dz1, dz2])
            clear dz1 dz2
            go_enter Tryd.func16, Tryd.ntmps16
            go_wp2_with (first | ((with_reducible refine (IV.out _).mono ?_); rintro e w1 ⟨rfl, rfl⟩) | ((with_reducible refine (IT.out _).mono ?_); rintro e w1 ⟨rfl, rfl⟩) | ((with_reducible refine (IP.out _ bel).mono ?_); rintro e w2 ⟨rfl, g⟩; (have q0 := (g.block _ (lt_of_block q0)).trans q0); (obtain ⟨d0, d1, d2, d3, d4, d5, df⟩ := block_cells6 q0); (have bel := chain bel g); clear g) | ((with_reducible refine (IC.out _ bel).mono ?_); rintro e w3 ⟨rfl, g⟩; (have q0 := (g.block _ (lt_of_block q0)).trans q0); (obtain ⟨d0, d1, d2, d3, d4, d5, df⟩ := block_cells6 q0); (have bel := chain bel g); clear g))
            go_ret
            exact ⟨ret_b RES.out.symm, bel⟩
          | true =>
            cases b2 with
            | false =>
              have RES := Lib.hid (show R = false by rw [HR.out]; simp [dz1, dz2])
              clear dz1 dz2
              go_enter Tryd.func16, Tryd.ntmps16
              go_wp2_with (first | ((with_reducible refine (IV.out _).mono ?_); rintro e w1 ⟨rfl, rfl⟩) | ((with_reducible refine (IT.out _).mono ?_); rintro e w1 ⟨rfl, rfl⟩) | ((with_reducible refine (IP.out _ bel).mono ?_); rintro e w2 ⟨rfl, g⟩; (have q0 := (g.block _ (lt_of_block q0)).trans q0); (obtain ⟨d0, d1, d2, d3, d4, d5, df⟩ := block_cells6 q0); (have bel := chain bel g); clear g) | ((with_reducible refine (IC.out _ bel).mono ?_); rintro e w3 ⟨rfl, g⟩; (have q0 := (g.block _ (lt_of_block q0)).trans q0); (obtain ⟨d0, d1, d2, d3, d4, d5, df⟩ := block_cells6 q0); (have bel := chain bel g); clear g))
              go_ret
              exact ⟨ret_b RES.out.symm, bel⟩
            | true =>
              by_cases hb3 : n ≤ 65536
              · have db3 : decide (n ≤ 65536) = true := decide_eq_true hb3
                cases b4 with
                | false =>
                  have RES := Lib.hid (show R = false by rw [HR.out]; simp [db3, dz1, dz2])
                  clear db3 dz1 dz2
                  go_enter Tryd.func16, Tryd.ntmps16
                  go_wp2_with (first | ((with_reducible refine (IV.out _).mono ?_); rintro e w1 ⟨rfl, rfl⟩) | ((with_reducible refine (IT.out _).mono ?_); rintro e w1 ⟨rfl, rfl⟩) | ((with_reducible refine (IP.out _ bel).mono ?_); rintro e w2 ⟨rfl, g⟩; (have q0 := (g.block _ (lt_of_block q0)).trans q0); (obtain ⟨d0, d1, d2, d3, d4, d5, df⟩ := block_cells6 q0); (have bel := chain bel g); clear g) | ((with_reducible refine (IC.out _ bel).mono ?_); rintro e w3 ⟨rfl, g⟩; (have q0 := (g.block _ (lt_of_block q0)).trans q0); (obtain ⟨d0, d1, d2, d3, d4, d5, df⟩ := block_cells6 q0); (have bel := chain bel g); clear g))
                  go_ret
                  exact ⟨ret_b RES.out.symm, bel⟩
                | true =>
                  cases b5 with
                  | false =>
                    have RES := Lib.hid (show R = false by rw [HR.out]; simp [db3, dz1, dz2])
                    clear db3 dz1 dz2
                    go_enter Tryd.func16, Tryd.ntmps16
                    go_wp2_with (first | ((with_reducible refine (IV.out _).mono ?_); rintro e w1 ⟨rfl, rfl⟩) | ((with_reducible refine (IT.out _).mono ?_); rintro e w1 ⟨rfl, rfl⟩) | ((with_reducible refine (IP.out _ bel).mono ?_); rintro e w2 ⟨rfl, g⟩; (have q0 := (g.block _ (lt_of_block q0)).trans q0); (obtain ⟨d0, d1, d2, d3, d4, d5, df⟩ := block_cells6 q0); (have bel := chain bel g); clear g) | ((with_reducible refine (IC.out _ bel).mono ?_); rintro e w3 ⟨rfl, g⟩; (have q0 := (g.block _ (lt_of_block q0)).trans q0); (obtain ⟨d0, d1, d2, d3, d4, d5, df⟩ := block_cells6 q0); (have bel := chain bel g); clear g))
                    go_ret
                    exact ⟨ret_b RES.out.symm, bel⟩
                  | true =>
                    have RES := Lib.hid (show R = true by rw [HR.out]; simp [db3, dz1, dz2])
                    clear db3 dz1 dz2
                    go_enter Tryd.func16, Tryd.ntmps16
                    go_wp2_with (first | ((with_reducible refine (IV.out _).mono ?_); rintro e w1 ⟨rfl, rfl⟩) | ((with_reducible refine (IT.out _).mono ?_); rintro e w1 ⟨rfl, rfl⟩) | ((with_reducible refine (IP.out _ bel).mono ?_); rintro e w2 ⟨rfl, g⟩; (have q0 := (g.block _ (lt_of_block q0)).trans q0); (obtain ⟨d0, d1, d2, d3, d4, d5, df⟩ := block_cells6 q0); (have bel := chain bel g); clear g) | ((with_reducible refine (IC.out _ bel).mono ?_); rintro e w3 ⟨rfl, g⟩; (have q0 := (g.block _ (lt_of_block q0)).trans q0); (obtain ⟨d0, d1, d2, d3, d4, d5, df⟩ := block_cells6 q0); (have bel := chain bel g); clear g))
                    go_ret
                    exact ⟨ret_b RES.out.symm, bel⟩
              · have db3 : decide (n ≤ 65536) = false := decide_eq_false hb3
                have RES := Lib.hid (show R = false by rw [HR.out]; simp [db3, dz1, dz2])
                clear db3 dz1 dz2
                go_enter Tryd.func16, Tryd.ntmps16
                go_wp2_with (first | ((with_reducible refine (IV.out _).mono ?_); rintro e w1 ⟨rfl, rfl⟩) | ((with_reducible refine (IT.out _).mono ?_); rintro e w1 ⟨rfl, rfl⟩) | ((with_reducible refine (IP.out _ bel).mono ?_); rintro e w2 ⟨rfl, g⟩; (have q0 := (g.block _ (lt_of_block q0)).trans q0); (obtain ⟨d0, d1, d2, d3, d4, d5, df⟩ := block_cells6 q0); (have bel := chain bel g); clear g) | ((with_reducible refine (IC.out _ bel).mono ?_); rintro e w3 ⟨rfl, g⟩; (have q0 := (g.block _ (lt_of_block q0)).trans q0); (obtain ⟨d0, d1, d2, d3, d4, d5, df⟩ := block_cells6 q0); (have bel := chain bel g); clear g))
                go_ret
                exact ⟨ret_b RES.out.symm, bel⟩
      · have dz2 : decide (tm = 0) = false := decide_eq_false hz2
        have ez2 : (tm == 0) = false := by simpa using hz2
        have RES := Lib.hid (show R = false by rw [HR.out]; simp [dz1, dz2])
        clear dz1 dz2
        go_enter Tryd.func16, Tryd.ntmps16
        go_wp2_with (first | ((with_reducible refine (IV.out _).mono ?_); rintro e w1 ⟨rfl, rfl⟩) | ((with_reducible refine (IT.out _).mono ?_); rintro e w1 ⟨rfl, rfl⟩) | ((with_reducible refine (IP.out _ bel).mono ?_); rintro e w2 ⟨rfl, g⟩; (have q0 := (g.block _ (lt_of_block q0)).trans q0); (obtain ⟨d0, d1, d2, d3, d4, d5, df⟩ := block_cells6 q0); (have bel := chain bel g); clear g) | ((with_reducible refine (IC.out _ bel).mono ?_); rintro e w3 ⟨rfl, g⟩; (have q0 := (g.block _ (lt_of_block q0)).trans q0); (obtain ⟨d0, d1, d2, d3, d4, d5, df⟩ := block_cells6 q0); (have bel := chain bel g); clear g))
        go_ret
        exact ⟨ret_b RES.out.symm, bel⟩
    · have dz1 : decide (vw = 0) = false := decide_eq_false hz1
      have ez1 : (vw == 0) = false := by simpa using hz1
      have RES := Lib.hid (show R = false by rw [HR.out]; simp [dz1])
      clear dz1
      go_enter Tryd.func16, Tryd.ntmps16
      go_wp2_with (first | ((with_reducible refine (IV.out _).mono ?_); rintro e w1 ⟨rfl, rfl⟩) | ((with_reducible refine (IT.out _).mono ?_); rintro e w1 ⟨rfl, rfl⟩) | ((with_reducible refine (IP.out _ bel).mono ?_); rintro e w2 ⟨rfl, g⟩; (have q0 := (g.block _ (lt_of_block q0)).trans q0); (obtain ⟨d0, d1, d2, d3, d4, d5, df⟩ := block_cells6 q0); (have bel := chain bel g); clear g) | ((with_reducible refine (IC.out _ bel).mono ?_); rintro e w3 ⟨rfl, g⟩; (have q0 := (g.block _ (lt_of_block q0)).trans q0); (obtain ⟨d0, d1, d2, d3, d4, d5, df⟩ := block_cells6 q0); (have bel := chain bel g); clear g))
      go_ret
      exact ⟨ret_b RES.out.symm, bel⟩
  | true =>
    cases b1 with
    | false =>
      have RES := Lib.hid (show R = false by rw [HR.out]; simp [])
      go_enter Tryd.func16, Tryd.ntmps16
      go_wp2_with (first | ((with_reducible refine (IV.out _).mono ?_); rintro e w1 ⟨rfl, rfl⟩) | ((with_reducible refine (IT.out _).mono ?_); rintro e w1 ⟨rfl, rfl⟩) | ((with_reducible refine (IP.out _ bel).mono ?_); rintro e w2 ⟨rfl, g⟩; (have q0 := (g.block _ (lt_of_block q0)).trans q0); (obtain ⟨d0, d1, d2, d3, d4, d5, df⟩ := block_cells6 q0); (have bel := chain bel g); clear g) | ((with_reducible refine (IC.out _ bel).mono ?_); rintro e w3 ⟨rfl, g⟩; (have q0 := (g.block _ (lt_of_block q0)).trans q0); (obtain ⟨d0, d1, d2, d3, d4, d5, df⟩ := block_cells6 q0); (have bel := chain bel g); clear g))
      go_ret
      exact ⟨ret_b RES.out.symm, bel⟩
    | true =>
      cases b2 with
      | false =>
        have RES := Lib.hid (show R = false by rw [HR.out]; simp [])
        go_enter Tryd.func16, Tryd.ntmps16
        go_wp2_with (first | ((with_reducible refine (IV.out _).mono ?_); rintro e w1 ⟨rfl, rfl⟩) | ((with_reducible refine (IT.out _).mono ?_); rintro e w1 ⟨rfl, rfl⟩) | ((with_reducible refine (IP.out _ bel).mono ?_); rintro e w2 ⟨rfl, g⟩; (have q0 := (g.block _ (lt_of_block q0)).trans q0); (obtain ⟨d0, d1, d2, d3, d4, d5, df⟩ := block_cells6 q0); (have bel := chain bel g); clear g) | ((with_reducible refine (IC.out _ bel).mono ?_); rintro e w3 ⟨rfl, g⟩; (have q0 := (g.block _ (lt_of_block q0)).trans q0); (obtain ⟨d0, d1, d2, d3, d4, d5, df⟩ := block_cells6 q0); (have bel := chain bel g); clear g))
        go_ret
        exact ⟨ret_b RES.out.symm, bel⟩
      | true =>
        by_cases hb3 : n ≤ 65536
        · have db3 : decide (n ≤ 65536) = true := decide_eq_true hb3
          cases b4 with
          | false =>
            have RES := Lib.hid (show R = false by rw [HR.out]; simp [db3])
            clear db3
            go_enter Tryd.func16, Tryd.ntmps16
            go_wp2_with (first | ((with_reducible refine (IV.out _).mono ?_); rintro e w1 ⟨rfl, rfl⟩) | ((with_reducible refine (IT.out _).mono ?_); rintro e w1 ⟨rfl, rfl⟩) | ((with_reducible refine (IP.out _ bel).mono ?_); rintro e w2 ⟨rfl, g⟩; (have q0 := (g.block _ (lt_of_block q0)).trans q0); (obtain ⟨d0, d1, d2, d3, d4, d5, df⟩ := block_cells6 q0); (have bel := chain bel g); clear g) | ((with_reducible refine (IC.out _ bel).mono ?_); rintro e w3 ⟨rfl, g⟩; (have q0 := (g.block _ (lt_of_block q0)).trans q0); (obtain ⟨d0, d1, d2, d3, d4, d5, df⟩ := block_cells6 q0); (have bel := chain bel g); clear g))
            go_ret
            exact ⟨ret_b RES.out.symm, bel⟩
          | true =>
            cases b5 with
            | false =>
              have RES := Lib.hid (show R = false by rw [HR.out]; simp [db3])
              clear db3
              go_enter Tryd.func16, Tryd.ntmps16
              go_wp2_with (first | ((with_reducible refine (IV.out _).mono ?_); rintro e w1 ⟨rfl, rfl⟩) | ((with_reducible refine (IT.out _).mono ?_); rintro e w1 ⟨rfl, rfl⟩) | ((with_reducible refine (IP.out _ bel).mono ?_); rintro e w2 ⟨rfl, g⟩; (have q0 := (g.block _ (lt_of_block q0)).trans q0); (obtain ⟨d0, d1, d2, d3, d4, d5, df⟩ := block_cells6 q0); (have bel := chain bel g); clear g) | ((with_reducible refine (IC.out _ bel).mono ?_); rintro e w3 ⟨rfl, g⟩; (have q0 := (g.block _ (lt_of_block q0)).trans q0); (obtain ⟨d0, d1, d2, d3, d4, d5, df⟩ := block_cells6 q0); (have bel := chain bel g); clear g))
              go_ret
              exact ⟨ret_b RES.out.symm, bel⟩
            | true =>
              have RES := Lib.hid (show R = true by rw [HR.out]; simp [db3])
              clear db3
              go_enter Tryd.func16, Tryd.ntmps16
              go_wp2_with (first | ((with_reducible refine (IV.out _).mono ?_); rintro e w1 ⟨rfl, rfl⟩) | ((with_reducible refine (IT.out _).mono ?_); rintro e w1 ⟨rfl, rfl⟩) | ((with_reducible refine (IP.out _ bel).mono ?_); rintro e w2 ⟨rfl, g⟩; (have q0 := (g.block _ (lt_of_block q0)).trans q0); (obtain ⟨d0, d1, d2, d3, d4, d5, df⟩ := block_cells6 q0); (have bel := chain bel g); clear g) | ((with_reducible refine (IC.out _ bel).mono ?_); rintro e w3 ⟨rfl, g⟩; (have q0 := (g.block _ (lt_of_block q0)).trans q0); (obtain ⟨d0, d1, d2, d3, d4, d5, df⟩ := block_cells6 q0); (have bel := chain bel g); clear g))
              go_ret
              exact ⟨ret_b RES.out.symm, bel⟩
        · have db3 : decide (n ≤ 65536) = false := decide_eq_false hb3
          have RES := Lib.hid (show R = false by rw [HR.out]; simp [db3])
          clear db3
          go_enter Tryd.func16, Tryd.ntmps16
          go_wp2_with (first | ((with_reducible refine (IV.out _).mono ?_); rintro e w1 ⟨rfl, rfl⟩) | ((with_reducible refine (IT.out _).mono ?_); rintro e w1 ⟨rfl, rfl⟩) | ((with_reducible refine (IP.out _ bel).mono ?_); rintro e w2 ⟨rfl, g⟩; (have q0 := (g.block _ (lt_of_block q0)).trans q0); (obtain ⟨d0, d1, d2, d3, d4, d5, df⟩ := block_cells6 q0); (have bel := chain bel g); clear g) | ((with_reducible refine (IC.out _ bel).mono ?_); rintro e w3 ⟨rfl, g⟩; (have q0 := (g.block _ (lt_of_block q0)).trans q0); (obtain ⟨d0, d1, d2, d3, d4, d5, df⟩ := block_cells6 q0); (have bel := chain bel g); clear g))
          go_ret
          exact ⟨ret_b RES.out.symm, bel⟩
end Go.Proofs.YtgmblgpfgdfnaaaDoor
