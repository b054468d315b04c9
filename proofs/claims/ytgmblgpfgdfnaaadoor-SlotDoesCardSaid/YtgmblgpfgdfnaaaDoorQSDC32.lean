/- Slots: the law SlotDoes. Written by wip/tools/gen29y.py. -/
import Derived.Test.YtgmblgpfgdfnaaaDoorQSDC30
import Derived.Test.YtgmblgpfgdfnaaaDoorQSDC31
namespace Go.Proofs.YtgmblgpfgdfnaaaDoor
open Go Go.RowKit
set_option linter.unusedVariables false
set_option linter.unusedSimpArgs false
set_option maxRecDepth 100000
set_option maxHeartbeats 4000000 in
theorem does_walk (s0 : Sl) (h : Bool) (vw tm : Int) (bd : List UInt8) (ps cs : List Vt) (vP vC : Value) (a b c : Int) (tb : List UInt8) (w : World) (hs : RdS w s0 vP vC) (ht : tb.length ≤ maxLen) (hT : TabAt w) (es : fewS s0 = ⟨h, vw, tm, bd, ps, cs⟩) :
    Calls Tryd.prog 3 #[sV s0 vP vC, .agg #[.int .i64 a, .int .i64 b, .int .i64 c], .string (str tb)] w fun e w' => e = .returned (.bool true) ∧ Below w.heap.size w w' := by
  have FA0 := fun w' (g : Below w.heap.size w w') => few_any s0 vP vC w' (hs.below g (Nat.le_refl _))
  have HLP := Lib.hid (show ps.length ≤ 66 ∧ cs.length ≤ 66 by have e := es; unfold fewS at e; injection e with _ _ _ _ e1 e2; rw [← e1, ← e2]; simp only [List.length_take]; omega)
  obtain ⟨i0, hi, hz0, hz1, hz2⟩ := info_parts vote_info
  rw [es] at FA0
  unfold GivesF at FA0
  unfold sV at FA0 ⊢
  obtain ⟨h0, v0, t0, bd0, ps0, cs0⟩ := s0
  simp only at FA0 ⊢
  have TX0 := fun w' => text_any tb w' ht
  obtain ⟨tx, htx⟩ : ∃ l, l = tb.take 65540 := ⟨_, rfl⟩
  rw [← htx] at TX0
  have HTL := Lib.hid (show tx.length ≤ maxLen by rw [htx, List.length_take]; omega)
  obtain ⟨T0, hT0⟩ : ∃ S, S = str tb := ⟨_, rfl⟩
  obtain ⟨T, hTT⟩ : ∃ S, S = str tx := ⟨_, rfl⟩
  obtain ⟨S0, hS0⟩ : ∃ S, S = str bd0 := ⟨_, rfl⟩
  obtain ⟨S, hS⟩ : ∃ S, S = str bd := ⟨_, rfl⟩
  rw [← hT0, ← hTT] at TX0
  rw [← hS0, ← hS] at FA0
  rw [← hT0, ← hS0]
  have HTT := Lib.hid hTT
  have HS := Lib.hid hS
  have FA := Lib.hid FA0
  have TX := Lib.hid TX0
  have HT := Lib.hid hT
  have sP := rdt_val hs.p
  have sC := rdt_val hs.c
  have hal := two_allocs w (.cells #[.bool h0, .int .i64 v0, .int .i64 t0, .string S0, vP, vC] 24) (.cells #[.int .i64 a, .int .i64 b, .int .i64 c] 26)
  have q0 : ((w.alloc (.cells #[.bool h0, .int .i64 v0, .int .i64 t0, .string S0, vP, vC] 24)).alloc (.cells #[.int .i64 a, .int .i64 b, .int .i64 c] 26)).heap[w.heap.size]? = some (.cells #[.bool h0, .int .i64 v0, .int .i64 t0, .string S0, vP, vC] 24 (0, 0)) := hal.1
  have q1 : ((w.alloc (.cells #[.bool h0, .int .i64 v0, .int .i64 t0, .string S0, vP, vC] 24)).alloc (.cells #[.int .i64 a, .int .i64 b, .int .i64 c] 26)).heap[w.heap.size + 1]? = some (.cells #[.int .i64 a, .int .i64 b, .int .i64 c] 26 (0, 0)) := hal.2.1
  have bel := ((Below.refl w.heap.size w).alloc (Nat.le_refl _) (.cells #[.bool h0, .int .i64 v0, .int .i64 t0, .string S0, vP, vC] 24)).alloc (by simp) (.cells #[.int .i64 a, .int .i64 b, .int .i64 c] 26)
  obtain ⟨d0, d1, d2, d3, d4, d5, df⟩ := block_cells6 q0
  obtain ⟨e0, e1, e2, ef⟩ := block_cells3 q1
  clear FA0 TX0 hs ht hT es htx hT0 hTT hS0 hS hal
  go_enter Tryd.func3, Tryd.ntmps3
  go_upto_region 2 with (first | ((with_reducible refine (FA.out _ bel).mono ?_); rintro e w2 ⟨p1, n1, c1, p2, n2, c2, rfl, RD, g⟩; (have HRD := Lib.hid RD); (clear RD d0 d1 d2 d3 d4 d5 df e0 e1 e2 ef); (replace q0 := (g.block _ (lt_of_block q0)).trans q0); (replace q1 := (g.block _ (lt_of_block q1)).trans q1); (replace bel := chain bel g); clear g; (obtain ⟨d0, d1, d2, d3, d4, d5, df⟩ := block_cells6 q0); (obtain ⟨e0, e1, e2, ef⟩ := block_cells3 q1); (have q0' := set6_new (u0 := .bool h) (u1 := .int .i64 vw) (u2 := .int .i64 tm) (u3 := .string S) (u4 := .slice p1 n1 c1) (u5 := .slice p2 n2 c2) q0); (have q1' := (set6_old (w := w2) (B := w.heap.size) (k := w.heap.size + 1) (u0 := .bool h) (u1 := .int .i64 vw) (u2 := .int .i64 tm) (u3 := .string S) (u4 := .slice p1 n1 c1) (u5 := .slice p2 n2 c2) (by omega)).trans q1); (have g6 := set6_grown (w := w2) (B := w.heap.size) (u0 := .bool h) (u1 := .int .i64 vw) (u2 := .int .i64 tm) (u3 := .string S) (u4 := .slice p1 n1 c1) (u5 := .slice p2 n2 c2))) | ((with_reducible refine (TX.out _).mono ?_); rintro e w9 ⟨rfl, rfl⟩))
  obtain ⟨W3, hW3⟩ : ∃ W, W = ((((((w2.setCell ⟨w.heap.size, 0, none⟩ (.bool h)).setCell ⟨w.heap.size, 1, none⟩ (.int .i64 vw)).setCell ⟨w.heap.size, 2, none⟩ (.int .i64 tm)).setCell ⟨w.heap.size, 3, none⟩ (.string S)).setCell ⟨w.heap.size, 4, none⟩ (.slice p1 n1 c1)).setCell ⟨w.heap.size, 5, none⟩ (.slice p2 n2 c2)) := ⟨_, rfl⟩
  rw [← hW3] at q0' q1' g6 ⊢
  clear hW3 d0 d1 d2 d3 d4 d5 df e0 e1 e2 ef
  have HP := Lib.hid (rdt_six sP sC q0 g6 HRD.out.p)
  have HC := Lib.hid (rdt_six sP sC q0 g6 HRD.out.c)
  have HB := Lib.hid HRD.out.b
  simp only at HP HC HB
  replace bel := below_grownB bel g6 bel.size (Nat.le_refl _)
  clear HRD g6 q0 q1 FA TX sP sC
  obtain ⟨d0, d1, d2, d3, d4, d5, df⟩ := block_cells6 q0'
  obtain ⟨e0, e1, e2, ef⟩ := block_cells3 q1'
  go_upto_region 3 with fail
  obtain ⟨W4, hW4⟩ : ∃ W, W = W3.alloc (.cells #[.bool h, .int .i64 vw, .int .i64 tm, .string S, .slice p1 n1 c1, .slice p2 n2 c2] 24) := ⟨_, rfl⟩
  rw [← hW4]
  have a0 : W4.heap[w.heap.size]? = some (.cells #[.bool h, .int .i64 vw, .int .i64 tm, .string S, .slice p1 n1 c1, .slice p2 n2 c2] 24 (0, 0)) := by rw [hW4]; exact (((Below.refl _ _).alloc (Nat.le_refl _) _).block _ (lt_of_block q0')).trans q0'
  have a1 : W4.heap[w.heap.size + 1]? = some (.cells #[.int .i64 a, .int .i64 b, .int .i64 c] 26 (0, 0)) := by rw [hW4]; exact (((Below.refl _ _).alloc (Nat.le_refl _) _).block _ (lt_of_block q1')).trans q1'
  have a7 : W4.heap[W3.heap.size]? = some (.cells #[.bool h, .int .i64 vw, .int .i64 tm, .string S, .slice p1 n1 c1, .slice p2 n2 c2] 24 (0, 0)) := by rw [hW4]; exact heap_alloc_new _ _
  have b4 : Below W3.heap.size W3 W4 := by rw [hW4]; exact (Below.refl _ _).alloc (Nat.le_refl _) _
  have bel4 := Lib.hid (chain bel b4)
  have HP4 := Lib.hid (RdT.below HP.out b4 (Nat.le_refl _))
  have HC4 := Lib.hid (RdT.below HC.out b4 (Nat.le_refl _))
  have z3 : w.heap.size + 1 < W3.heap.size := lt_of_block q1'
  have z4 : W3.heap.size < W4.heap.size := lt_of_block a7
  clear hW4 q0' q1' bel d0 d1 d2 d3 d4 d5 df e0 e1 e2 ef b4 HP HC
  have HL4 := Lib.hid (World.ownsRow_lit (e := 26) (size := 3) W4 #[] 0 (Nat.le_refl _) (by decide) rfl)
  have x0 : (W4.alloc (.cells #[] 26)).heap[w.heap.size]? = some (.cells #[.bool h, .int .i64 vw, .int .i64 tm, .string S, .slice p1 n1 c1, .slice p2 n2 c2] 24 (0, 0)) := (((Below.refl _ _).alloc (Nat.le_refl _) _).block _ (lt_of_block a0)).trans a0
  obtain ⟨d0, d1, d2, d3, d4, d5, df⟩ := block_cells6 x0
  go_upto_region 4 with (at_builtin; refine wpList_app_rdk vtC_len (by decide) W4 rfl (.tmp 25) (.tmp 27) 22 rfl W4.heap.size 26 i0 (.agg #[.int .i64 0, .int .i64 0, .int .i64 0]) 24 Tryd.underlying22 hi hz0 hz1 hz2 rfl (.slice (some ⟨W4.heap.size, 0, none⟩) 0 0) [] rfl HL4.out (.slice p1 n1 c1) ps rfl (HP4.out.below ((Below.refl _ _).alloc (Nat.le_refl _) _) (Nat.le_refl _)) vtC_one (by have := HLP.out; unfold maxLen; simp; omega) (by have := HLP.out; simp; omega) (Nat.le_refl _) ((Below.refl _ _).alloc (Nat.le_refl _) _) ?_; intro v5 w5 HO5 g5 hq5; clear hq5 d0 d1 d2 d3 d4 d5 df; (obtain ⟨a5, n5, k5, rfl⟩ := own_val HO5); (have q7 := (g5.block _ (lt_of_block a7)).trans a7); (obtain ⟨d0, d1, d2, d3, d4, d5, df⟩ := block_cells6 q7))
  obtain ⟨W5, hW5⟩ : ∃ W, W = w5.setCell ⟨W3.heap.size, 4, none⟩ (.slice a5 n5 k5) := ⟨_, rfl⟩
  rw [← hW5]
  have G5 : w5.grownBy W5 (some W3.heap.size) := by rw [hW5]; exact grown_setB grown_reflB
  have a0_5 : W5.heap[w.heap.size]? = some (.cells #[.bool h, .int .i64 vw, .int .i64 tm, .string S, .slice p1 n1 c1, .slice p2 n2 c2] 24 (0, 0)) := by rw [hW5]; exact (set_old (by omega)).trans ((g5.block _ (lt_of_block a0)).trans a0)
  have a1_5 : W5.heap[w.heap.size + 1]? = some (.cells #[.int .i64 a, .int .i64 b, .int .i64 c] 26 (0, 0)) := by rw [hW5]; exact (set_old (by omega)).trans ((g5.block _ (lt_of_block a1)).trans a1)
  have a7_5 : W5.heap[W3.heap.size]? = some (.cells #[.bool h, .int .i64 vw, .int .i64 tm, .string S, .slice a5 n5 k5, .slice p2 n2 c2] 24 (0, 0)) := by rw [hW5]; simpa using set_at (i := 4) (u := .slice a5 n5 k5) q7
  have bel5 := Lib.hid (below_grownB (chain bel4.out g5) G5 (chain bel4.out g5).size (by omega))
  have HP5 := Lib.hid (rdt_six (one_slice _ _ _) (one_slice _ _ _) q7 G5 (RdT.below HP4.out g5 (Nat.le_refl _)))
  have HC5 := Lib.hid (rdt_six (one_slice _ _ _) (one_slice _ _ _) q7 G5 (RdT.below HC4.out g5 (Nat.le_refl _)))
  have HO5' := own_rdk vtC_len HO5
  rw [List.nil_append] at HO5'
  have HX5 := Lib.hid (rdt_six (one_slice _ _ _) (one_slice _ _ _) q7 G5 HO5')
  have z5 : W3.heap.size < W5.heap.size := lt_of_block a7_5
  clear hW5 a0 a1 a7 q7 HO5 HO5' g5 G5 bel4 HP4 HC4 HL4 x0 d0 d1 d2 d3 d4 d5 df
  have a0 := a0_5
  have a1 := a1_5
  have a7 := a7_5
  clear a0_5 a1_5 a7_5
  have HL5 := Lib.hid (World.ownsRow_lit (e := 26) (size := 3) W5 #[] 0 (Nat.le_refl _) (by decide) rfl)
  have x0 : (W5.alloc (.cells #[] 26)).heap[w.heap.size]? = some (.cells #[.bool h, .int .i64 vw, .int .i64 tm, .string S, .slice p1 n1 c1, .slice p2 n2 c2] 24 (0, 0)) := (((Below.refl _ _).alloc (Nat.le_refl _) _).block _ (lt_of_block a0)).trans a0
  obtain ⟨d0, d1, d2, d3, d4, d5, df⟩ := block_cells6 x0
  go_upto_region 5 with (at_builtin; refine wpList_app_rdk vtC_len (by decide) W5 rfl (.tmp 30) (.tmp 32) 22 rfl W5.heap.size 26 i0 (.agg #[.int .i64 0, .int .i64 0, .int .i64 0]) 24 Tryd.underlying22 hi hz0 hz1 hz2 rfl (.slice (some ⟨W5.heap.size, 0, none⟩) 0 0) [] rfl HL5.out (.slice p2 n2 c2) cs rfl (HC5.out.below ((Below.refl _ _).alloc (Nat.le_refl _) _) (Nat.le_refl _)) vtC_one (by have := HLP.out; unfold maxLen; simp; omega) (by have := HLP.out; simp; omega) (Nat.le_refl _) ((Below.refl _ _).alloc (Nat.le_refl _) _) ?_; intro v6 w6 HO6 g6 hq6; clear hq6 d0 d1 d2 d3 d4 d5 df; (obtain ⟨a6, n6, k6, rfl⟩ := own_val HO6); (have q7 := (g6.block _ (lt_of_block a7)).trans a7); (obtain ⟨d0, d1, d2, d3, d4, d5, df⟩ := block_cells6 q7))
  obtain ⟨W6, hW6⟩ : ∃ W, W = w6.setCell ⟨W3.heap.size, 5, none⟩ (.slice a6 n6 k6) := ⟨_, rfl⟩
  rw [← hW6]
  have G6 : w6.grownBy W6 (some W3.heap.size) := by rw [hW6]; exact grown_setB grown_reflB
  have a0_6 : W6.heap[w.heap.size]? = some (.cells #[.bool h, .int .i64 vw, .int .i64 tm, .string S, .slice p1 n1 c1, .slice p2 n2 c2] 24 (0, 0)) := by rw [hW6]; exact (set_old (by omega)).trans ((g6.block _ (lt_of_block a0)).trans a0)
  have a1_6 : W6.heap[w.heap.size + 1]? = some (.cells #[.int .i64 a, .int .i64 b, .int .i64 c] 26 (0, 0)) := by rw [hW6]; exact (set_old (by omega)).trans ((g6.block _ (lt_of_block a1)).trans a1)
  have a7_6 : W6.heap[W3.heap.size]? = some (.cells #[.bool h, .int .i64 vw, .int .i64 tm, .string S, .slice a5 n5 k5, .slice a6 n6 k6] 24 (0, 0)) := by rw [hW6]; simpa using set_at (i := 5) (u := .slice a6 n6 k6) q7
  have bel6 := Lib.hid (below_grownB (chain bel5.out g6) G6 (chain bel5.out g6).size (by omega))
  have HP6 := Lib.hid (rdt_six (one_slice _ _ _) (one_slice _ _ _) q7 G6 (RdT.below HP5.out g6 (Nat.le_refl _)))
  have HC6 := Lib.hid (rdt_six (one_slice _ _ _) (one_slice _ _ _) q7 G6 (RdT.below HC5.out g6 (Nat.le_refl _)))
  have HX6 := Lib.hid (rdt_six (one_slice _ _ _) (one_slice _ _ _) q7 G6 (RdT.below HX5.out g6 (Nat.le_refl _)))
  have HO6' := own_rdk vtC_len HO6
  rw [List.nil_append] at HO6'
  have HY6 := Lib.hid (rdt_six (one_slice _ _ _) (one_slice _ _ _) q7 G6 HO6')
  have z6 : W3.heap.size < W6.heap.size := lt_of_block a7_6
  clear hW6 a0 a1 a7 q7 HO6 HO6' g6 G6 bel5 HP5 HC5 HL5 x0 d0 d1 d2 d3 d4 d5 df HX5
  have a0 := a0_6
  have a1 := a1_6
  have a7 := a7_6
  clear a0_6 a1_6 a7_6
  have RS := Lib.hid (RdS.mk (s := (⟨h, vw, tm, bd, ps, cs⟩ : Sl)) HP6.out HC6.out HB.out)
  have RW := Lib.hid (RdS.mk (s := (⟨h, vw, tm, bd, ps, cs⟩ : Sl)) HX6.out HY6.out HB.out)
  have HT6 := Lib.hid (HT.out.below bel6.out (Nat.lt_of_le_of_lt (Nat.zero_le _) HT.out.1))
  clear HP6 HC6 HX6 HY6 HB HLP hi hz0 hz1 hz2
  have C8 := fun w' (g : Below W6.heap.size W6 w') => (propose_any (⟨h, vw, tm, bd, ps, cs⟩ : Sl) (.slice p1 n1 c1) (.slice p2 n2 c2) b c tx w' (RS.out.below g (Nat.le_refl _)) HTL.out).mono (fun _ _ => gq_p)
  have C9 := fun w' (g : Below W6.heap.size W6 w') => (prep_any (⟨h, vw, tm, bd, ps, cs⟩ : Sl) (.slice p1 n1 c1) (.slice p2 n2 c2) (⟨a, b, c⟩ : Vt) w' (RS.out.below g (Nat.le_refl _))).mono (fun _ _ => gq_p)
  have C10 := fun w' (g : Below W6.heap.size W6 w') => (com_any (⟨h, vw, tm, bd, ps, cs⟩ : Sl) (.slice p1 n1 c1) (.slice p2 n2 c2) (⟨a, b, c⟩ : Vt) w' (RS.out.below g (Nat.le_refl _))).mono (fun _ _ => gq_p)
  have C11 := fun w' (g : Below W6.heap.size W6 w') => (rpropose_any (⟨h, vw, tm, bd, ps, cs⟩ : Sl) (.slice a5 n5 k5) (.slice a6 n6 k6) b c tx w' (RW.out.below g (Nat.le_refl _)) HTL.out).mono (fun _ _ => gq_r)
  have C12 := fun w' (g : Below W6.heap.size W6 w') => (rprep_any (⟨h, vw, tm, bd, ps, cs⟩ : Sl) (.slice a5 n5 k5) (.slice a6 n6 k6) (⟨a, b, c⟩ : Vt) w' (RW.out.below g (Nat.le_refl _))).mono (fun _ _ => gq_r)
  have C13 := fun w' (g : Below W6.heap.size W6 w') => (rcom_any (⟨h, vw, tm, bd, ps, cs⟩ : Sl) (.slice a5 n5 k5) (.slice a6 n6 k6) (⟨a, b, c⟩ : Vt) w' (RW.out.below g (Nat.le_refl _))).mono (fun _ _ => gq_r)
  unfold sV at C8 C9 C10 C11 C12 C13
  unfold vtV at C9 C10 C12 C13
  simp only at C8 C9 C10 C11 C12 C13
  rw [← HS.out] at C8 C9 C10 C11 C12 C13
  rw [← HTT.out] at C8 C11
  obtain ⟨R1, hR1⟩ : ∃ R, R = propR (⟨h, vw, tm, bd, ps, cs⟩ : Sl) b c tx := ⟨_, rfl⟩
  obtain ⟨E1, hE1⟩ : ∃ E : Int, E = ((propE (⟨h, vw, tm, bd, ps, cs⟩ : Sl) b c tx : Nat) : Int) := ⟨_, rfl⟩
  rw [← hR1, ← hE1] at C8 C11
  obtain ⟨h1, v1, t1, b1, ps1, cs1⟩ := R1
  simp only at C8 C11
  obtain ⟨S1, hS1⟩ : ∃ S, S = str b1 := ⟨_, rfl⟩
  rw [← hS1] at C8 C11
  have HS1 := Lib.hid hS1
  have D8 := Lib.hid C8
  have D11 := Lib.hid C11
  clear hR1 hE1 hS1 C8 C11
  obtain ⟨R2, hR2⟩ : ∃ R, R = prepR (⟨h, vw, tm, bd, ps, cs⟩ : Sl) ⟨a, b, c⟩ := ⟨_, rfl⟩
  obtain ⟨E2, hE2⟩ : ∃ E : Int, E = ((castE (⟨h, vw, tm, bd, ps, cs⟩ : Sl) ps ⟨a, b, c⟩ : Nat) : Int) := ⟨_, rfl⟩
  rw [← hR2, ← hE2] at C9 C12
  obtain ⟨h2, v2, t2, b2, ps2, cs2⟩ := R2
  simp only at C9 C12
  obtain ⟨S2, hS2⟩ : ∃ S, S = str b2 := ⟨_, rfl⟩
  rw [← hS2] at C9 C12
  have HS2 := Lib.hid hS2
  have D9 := Lib.hid C9
  have D12 := Lib.hid C12
  clear hR2 hE2 hS2 C9 C12
  obtain ⟨R3, hR3⟩ : ∃ R, R = comR (⟨h, vw, tm, bd, ps, cs⟩ : Sl) ⟨a, b, c⟩ := ⟨_, rfl⟩
  obtain ⟨E3, hE3⟩ : ∃ E : Int, E = ((castE (⟨h, vw, tm, bd, ps, cs⟩ : Sl) cs ⟨a, b, c⟩ : Nat) : Int) := ⟨_, rfl⟩
  rw [← hR3, ← hE3] at C10 C13
  obtain ⟨h3, v3, t3, b3, ps3, cs3⟩ := R3
  simp only at C10 C13
  obtain ⟨S3, hS3⟩ : ∃ S, S = str b3 := ⟨_, rfl⟩
  rw [← hS3] at C10 C13
  have HS3 := Lib.hid hS3
  have D10 := Lib.hid C10
  have D13 := Lib.hid C13
  clear hR3 hE3 hS3 C10 C13
  have MA0 := fun w' (g : Below W6.heap.size W6 w') => slMay_any (⟨h, vw, tm, bd, ps, cs⟩ : Sl) (.slice p1 n1 c1) (.slice p2 n2 c2) w' (RS.out.below g (Nat.le_refl _))
  have MB0 := fun w' (g : Below W6.heap.size W6 w') => refMay_any (⟨h, vw, tm, bd, ps, cs⟩ : Sl) (.slice p1 n1 c1) (.slice p2 n2 c2) w' (RS.out.below g (Nat.le_refl _))
  have MC0 := fun w' (g : Below W6.heap.size W6 w') => same_yes (⟨h, vw, tm, bd, ps, cs⟩ : Sl) (.slice p1 n1 c1) (.slice p2 n2 c2) (.slice a5 n5 k5) (.slice a6 n6 k6) w' (RS.out.below g (Nat.le_refl _)) (RW.out.below g (Nat.le_refl _))
  unfold sV at MA0 MB0 MC0
  simp only at MA0 MB0 MC0
  rw [← HS.out] at MA0 MB0 MC0
  obtain ⟨m, hm⟩ : ∃ m, m = mayS (⟨h, vw, tm, bd, ps, cs⟩ : Sl) := ⟨_, rfl⟩
  rw [← hm] at MA0 MB0
  have MA := Lib.hid MA0
  have MB := Lib.hid MB0
  have MC := Lib.hid MC0
  have MD := Lib.hid (fun w' (g : Below W6.heap.size W6 w') => awake_any w' (HT6.out.below g (Nat.lt_of_le_of_lt (Nat.zero_le _) HT6.out.1)))
  clear MA0 MB0 MC0 hm RS RW HT6 HTT HTL HT
  have B6 : Below W6.heap.size W6 W6 := Below.refl _ _
  obtain ⟨d0, d1, d2, d3, d4, d5, df⟩ := block_cells6 a0
  obtain ⟨e0, e1, e2, ef⟩ := block_cells3 a1
  go_upto_region 6 with ((with_reducible refine (D8.out _ B6).mono ?_); rintro e w7 ⟨x7, y7, z7, u7, o7, l7, rfl, RR7, g7⟩)
  obtain ⟨W7, hW7⟩ : ∃ W, W = w7.alloc (.cells #[.bool h1, .int .i64 v1, .int .i64 t1, .string S1, .slice x7 y7 z7, .slice u7 o7 l7] 24) := ⟨_, rfl⟩
  rw [← hW7]
  have gg : Below W6.heap.size W6 W7 := by rw [hW7]; exact g7.alloc g7.size _
  have T7 : W7.heap[w7.heap.size]? = some (.cells #[.bool h1, .int .i64 v1, .int .i64 t1, .string S1, .slice x7 y7 z7, .slice u7 o7 l7] 24 (0, 0)) := by rw [hW7]; exact heap_alloc_new _ _
  have HR7 := Lib.hid (RdS.below RR7 (show Below w7.heap.size w7 W7 by rw [hW7]; exact (Below.refl _ _).alloc (Nat.le_refl _) _) (Nat.le_refl _))
  have B7 := chain B6 gg
  replace a0 := (gg.block _ (lt_of_block a0)).trans a0
  replace a1 := (gg.block _ (lt_of_block a1)).trans a1
  replace a7 := (gg.block _ (lt_of_block a7)).trans a7
  clear hW7 gg RR7 g7 B6 D8 d0 d1 d2 d3 d4 d5 df e0 e1 e2 ef
  obtain ⟨d0, d1, d2, d3, d4, d5, df⟩ := block_cells6 a0
  obtain ⟨e0, e1, e2, ef⟩ := block_cells3 a1
  go_upto_region 7 with ((with_reducible refine (D9.out _ B7).mono ?_); rintro e w8 ⟨x8, y8, z8, u8, o8, l8, rfl, RR8, g8⟩)
  obtain ⟨W8, hW8⟩ : ∃ W, W = w8.alloc (.cells #[.bool h2, .int .i64 v2, .int .i64 t2, .string S2, .slice x8 y8 z8, .slice u8 o8 l8] 24) := ⟨_, rfl⟩
  rw [← hW8]
  have gg : Below W7.heap.size W7 W8 := by rw [hW8]; exact g8.alloc g8.size _
  have T8 : W8.heap[w8.heap.size]? = some (.cells #[.bool h2, .int .i64 v2, .int .i64 t2, .string S2, .slice x8 y8 z8, .slice u8 o8 l8] 24 (0, 0)) := by rw [hW8]; exact heap_alloc_new _ _
  have HR8 := Lib.hid (RdS.below RR8 (show Below w8.heap.size w8 W8 by rw [hW8]; exact (Below.refl _ _).alloc (Nat.le_refl _) _) (Nat.le_refl _))
  have B8 := chain B7 gg
  replace a0 := (gg.block _ (lt_of_block a0)).trans a0
  replace a1 := (gg.block _ (lt_of_block a1)).trans a1
  replace a7 := (gg.block _ (lt_of_block a7)).trans a7
  replace T7 := (gg.block _ (lt_of_block T7)).trans T7
  replace HR7 := Lib.hid (RdS.below HR7.out gg (Nat.le_refl _))
  clear hW8 gg RR8 g8 B7 D9 d0 d1 d2 d3 d4 d5 df e0 e1 e2 ef
  obtain ⟨d0, d1, d2, d3, d4, d5, df⟩ := block_cells6 a0
  obtain ⟨e0, e1, e2, ef⟩ := block_cells3 a1
  go_upto_region 8 with ((with_reducible refine (D10.out _ B8).mono ?_); rintro e w9 ⟨x9, y9, z9, u9, o9, l9, rfl, RR9, g9⟩)
  obtain ⟨W9, hW9⟩ : ∃ W, W = w9.alloc (.cells #[.bool h3, .int .i64 v3, .int .i64 t3, .string S3, .slice x9 y9 z9, .slice u9 o9 l9] 24) := ⟨_, rfl⟩
  rw [← hW9]
  have gg : Below W8.heap.size W8 W9 := by rw [hW9]; exact g9.alloc g9.size _
  have T9 : W9.heap[w9.heap.size]? = some (.cells #[.bool h3, .int .i64 v3, .int .i64 t3, .string S3, .slice x9 y9 z9, .slice u9 o9 l9] 24 (0, 0)) := by rw [hW9]; exact heap_alloc_new _ _
  have HR9 := Lib.hid (RdS.below RR9 (show Below w9.heap.size w9 W9 by rw [hW9]; exact (Below.refl _ _).alloc (Nat.le_refl _) _) (Nat.le_refl _))
  have B9 := chain B8 gg
  replace a0 := (gg.block _ (lt_of_block a0)).trans a0
  replace a1 := (gg.block _ (lt_of_block a1)).trans a1
  replace a7 := (gg.block _ (lt_of_block a7)).trans a7
  replace T7 := (gg.block _ (lt_of_block T7)).trans T7
  replace HR7 := Lib.hid (RdS.below HR7.out gg (Nat.le_refl _))
  replace T8 := (gg.block _ (lt_of_block T8)).trans T8
  replace HR8 := Lib.hid (RdS.below HR8.out gg (Nat.le_refl _))
  clear hW9 gg RR9 g9 B8 D10 d0 d1 d2 d3 d4 d5 df e0 e1 e2 ef
  obtain ⟨d0, d1, d2, d3, d4, d5, df⟩ := block_cells6 a7
  obtain ⟨e0, e1, e2, ef⟩ := block_cells3 a1
  go_upto_region 9 with ((with_reducible refine (D11.out _ B9).mono ?_); rintro e w10 ⟨x10, y10, z10, u10, o10, l10, rfl, RR10, g10⟩)
  obtain ⟨W10, hW10⟩ : ∃ W, W = w10.alloc (.cells #[.bool h1, .int .i64 v1, .int .i64 t1, .string S1, .slice x10 y10 z10, .slice u10 o10 l10] 24) := ⟨_, rfl⟩
  rw [← hW10]
  have gg : Below W9.heap.size W9 W10 := by rw [hW10]; exact g10.alloc g10.size _
  have T10 : W10.heap[w10.heap.size]? = some (.cells #[.bool h1, .int .i64 v1, .int .i64 t1, .string S1, .slice x10 y10 z10, .slice u10 o10 l10] 24 (0, 0)) := by rw [hW10]; exact heap_alloc_new _ _
  have HR10 := Lib.hid (RdS.below RR10 (show Below w10.heap.size w10 W10 by rw [hW10]; exact (Below.refl _ _).alloc (Nat.le_refl _) _) (Nat.le_refl _))
  have B10 := chain B9 gg
  replace a0 := (gg.block _ (lt_of_block a0)).trans a0
  replace a1 := (gg.block _ (lt_of_block a1)).trans a1
  replace a7 := (gg.block _ (lt_of_block a7)).trans a7
  replace T7 := (gg.block _ (lt_of_block T7)).trans T7
  replace HR7 := Lib.hid (RdS.below HR7.out gg (Nat.le_refl _))
  replace T8 := (gg.block _ (lt_of_block T8)).trans T8
  replace HR8 := Lib.hid (RdS.below HR8.out gg (Nat.le_refl _))
  replace T9 := (gg.block _ (lt_of_block T9)).trans T9
  replace HR9 := Lib.hid (RdS.below HR9.out gg (Nat.le_refl _))
  clear hW10 gg RR10 g10 B9 D11 d0 d1 d2 d3 d4 d5 df e0 e1 e2 ef
  obtain ⟨d0, d1, d2, d3, d4, d5, df⟩ := block_cells6 a7
  obtain ⟨e0, e1, e2, ef⟩ := block_cells3 a1
  go_upto_region 10 with ((with_reducible refine (D12.out _ B10).mono ?_); rintro e w11 ⟨x11, y11, z11, u11, o11, l11, rfl, RR11, g11⟩)
  obtain ⟨W11, hW11⟩ : ∃ W, W = w11.alloc (.cells #[.bool h2, .int .i64 v2, .int .i64 t2, .string S2, .slice x11 y11 z11, .slice u11 o11 l11] 24) := ⟨_, rfl⟩
  rw [← hW11]
  have gg : Below W10.heap.size W10 W11 := by rw [hW11]; exact g11.alloc g11.size _
  have T11 : W11.heap[w11.heap.size]? = some (.cells #[.bool h2, .int .i64 v2, .int .i64 t2, .string S2, .slice x11 y11 z11, .slice u11 o11 l11] 24 (0, 0)) := by rw [hW11]; exact heap_alloc_new _ _
  have HR11 := Lib.hid (RdS.below RR11 (show Below w11.heap.size w11 W11 by rw [hW11]; exact (Below.refl _ _).alloc (Nat.le_refl _) _) (Nat.le_refl _))
  have B11 := chain B10 gg
  replace a0 := (gg.block _ (lt_of_block a0)).trans a0
  replace a1 := (gg.block _ (lt_of_block a1)).trans a1
  replace a7 := (gg.block _ (lt_of_block a7)).trans a7
  replace T7 := (gg.block _ (lt_of_block T7)).trans T7
  replace HR7 := Lib.hid (RdS.below HR7.out gg (Nat.le_refl _))
  replace T8 := (gg.block _ (lt_of_block T8)).trans T8
  replace HR8 := Lib.hid (RdS.below HR8.out gg (Nat.le_refl _))
  replace T9 := (gg.block _ (lt_of_block T9)).trans T9
  replace HR9 := Lib.hid (RdS.below HR9.out gg (Nat.le_refl _))
  replace T10 := (gg.block _ (lt_of_block T10)).trans T10
  replace HR10 := Lib.hid (RdS.below HR10.out gg (Nat.le_refl _))
  clear hW11 gg RR11 g11 B10 D12 d0 d1 d2 d3 d4 d5 df e0 e1 e2 ef
  obtain ⟨d0, d1, d2, d3, d4, d5, df⟩ := block_cells6 a7
  obtain ⟨e0, e1, e2, ef⟩ := block_cells3 a1
  go_upto_region 11 with ((with_reducible refine (D13.out _ B11).mono ?_); rintro e w12 ⟨x12, y12, z12, u12, o12, l12, rfl, RR12, g12⟩)
  obtain ⟨W12, hW12⟩ : ∃ W, W = w12.alloc (.cells #[.bool h3, .int .i64 v3, .int .i64 t3, .string S3, .slice x12 y12 z12, .slice u12 o12 l12] 24) := ⟨_, rfl⟩
  rw [← hW12]
  have gg : Below W11.heap.size W11 W12 := by rw [hW12]; exact g12.alloc g12.size _
  have T12 : W12.heap[w12.heap.size]? = some (.cells #[.bool h3, .int .i64 v3, .int .i64 t3, .string S3, .slice x12 y12 z12, .slice u12 o12 l12] 24 (0, 0)) := by rw [hW12]; exact heap_alloc_new _ _
  have HR12 := Lib.hid (RdS.below RR12 (show Below w12.heap.size w12 W12 by rw [hW12]; exact (Below.refl _ _).alloc (Nat.le_refl _) _) (Nat.le_refl _))
  have B12 := chain B11 gg
  replace a0 := (gg.block _ (lt_of_block a0)).trans a0
  replace a1 := (gg.block _ (lt_of_block a1)).trans a1
  replace a7 := (gg.block _ (lt_of_block a7)).trans a7
  replace T7 := (gg.block _ (lt_of_block T7)).trans T7
  replace HR7 := Lib.hid (RdS.below HR7.out gg (Nat.le_refl _))
  replace T8 := (gg.block _ (lt_of_block T8)).trans T8
  replace HR8 := Lib.hid (RdS.below HR8.out gg (Nat.le_refl _))
  replace T9 := (gg.block _ (lt_of_block T9)).trans T9
  replace HR9 := Lib.hid (RdS.below HR9.out gg (Nat.le_refl _))
  replace T10 := (gg.block _ (lt_of_block T10)).trans T10
  replace HR10 := Lib.hid (RdS.below HR10.out gg (Nat.le_refl _))
  replace T11 := (gg.block _ (lt_of_block T11)).trans T11
  replace HR11 := Lib.hid (RdS.below HR11.out gg (Nat.le_refl _))
  clear hW12 gg RR12 g12 B11 D13 d0 d1 d2 d3 d4 d5 df e0 e1 e2 ef
  clear a1
  have SA0 := fun w' (g : Below W12.heap.size W12 w') => same_yes (⟨h1, v1, t1, b1, ps1, cs1⟩ : Sl) (.slice x7 y7 z7) (.slice u7 o7 l7) (.slice x10 y10 z10) (.slice u10 o10 l10) w' (HR7.out.below g (Nat.le_refl _)) (HR10.out.below g (Nat.le_refl _))
  unfold sV at SA0
  simp only at SA0
  rw [← HS1.out] at SA0
  have SA1 := Lib.hid SA0
  clear SA0 HR7 HR10 HS1
  have SA0 := fun w' (g : Below W12.heap.size W12 w') => same_yes (⟨h2, v2, t2, b2, ps2, cs2⟩ : Sl) (.slice x8 y8 z8) (.slice u8 o8 l8) (.slice x11 y11 z11) (.slice u11 o11 l11) w' (HR8.out.below g (Nat.le_refl _)) (HR11.out.below g (Nat.le_refl _))
  unfold sV at SA0
  simp only at SA0
  rw [← HS2.out] at SA0
  have SA2 := Lib.hid SA0
  clear SA0 HR8 HR11 HS2
  have SA0 := fun w' (g : Below W12.heap.size W12 w') => same_yes (⟨h3, v3, t3, b3, ps3, cs3⟩ : Sl) (.slice x9 y9 z9) (.slice u9 o9 l9) (.slice x12 y12 z12) (.slice u12 o12 l12) w' (HR9.out.below g (Nat.le_refl _)) (HR12.out.below g (Nat.le_refl _))
  unfold sV at SA0
  simp only at SA0
  rw [← HS3.out] at SA0
  have SA3 := Lib.hid SA0
  clear SA0 HR9 HR12 HS3
  have Q12 : Below W12.heap.size W12 W12 := Below.refl _ _
  obtain ⟨ca0, ca1, ca2, ca3, ca4, ca5, caf⟩ := block_cells6 T7
  obtain ⟨cb0, cb1, cb2, cb3, cb4, cb5, cbf⟩ := block_cells6 T8
  obtain ⟨cc0, cc1, cc2, cc3, cc4, cc5, ccf⟩ := block_cells6 T9
  obtain ⟨cd0, cd1, cd2, cd3, cd4, cd5, cdf⟩ := block_cells6 T10
  obtain ⟨ce0, ce1, ce2, ce3, ce4, ce5, cef⟩ := block_cells6 T11
  obtain ⟨cf0, cf1, cf2, cf3, cf4, cf5, cff⟩ := block_cells6 T12
  go_wp2_with (first | ((with_reducible refine (SA1.out _ Q12).mono ?_); rintro e w21 ⟨rfl, g⟩; (replace T7 := (g.block _ (lt_of_block T7)).trans T7); (replace T8 := (g.block _ (lt_of_block T8)).trans T8); (replace T9 := (g.block _ (lt_of_block T9)).trans T9); (replace T10 := (g.block _ (lt_of_block T10)).trans T10); (replace T11 := (g.block _ (lt_of_block T11)).trans T11); (replace T12 := (g.block _ (lt_of_block T12)).trans T12); (replace a0 := (g.block _ (lt_of_block a0)).trans a0); (replace a7 := (g.block _ (lt_of_block a7)).trans a7); (replace Q12 := chain Q12 g); clear ca0 ca1 ca2 ca3 ca4 ca5 caf cb0 cb1 cb2 cb3 cb4 cb5 cbf cc0 cc1 cc2 cc3 cc4 cc5 ccf cd0 cd1 cd2 cd3 cd4 cd5 cdf ce0 ce1 ce2 ce3 ce4 ce5 cef cf0 cf1 cf2 cf3 cf4 cf5 cff g; (obtain ⟨ca0, ca1, ca2, ca3, ca4, ca5, caf⟩ := block_cells6 T7); (obtain ⟨cb0, cb1, cb2, cb3, cb4, cb5, cbf⟩ := block_cells6 T8); (obtain ⟨cc0, cc1, cc2, cc3, cc4, cc5, ccf⟩ := block_cells6 T9); (obtain ⟨cd0, cd1, cd2, cd3, cd4, cd5, cdf⟩ := block_cells6 T10); (obtain ⟨ce0, ce1, ce2, ce3, ce4, ce5, cef⟩ := block_cells6 T11); (obtain ⟨cf0, cf1, cf2, cf3, cf4, cf5, cff⟩ := block_cells6 T12)) | ((with_reducible refine (SA2.out _ Q12).mono ?_); rintro e w22 ⟨rfl, g⟩; (replace T7 := (g.block _ (lt_of_block T7)).trans T7); (replace T8 := (g.block _ (lt_of_block T8)).trans T8); (replace T9 := (g.block _ (lt_of_block T9)).trans T9); (replace T10 := (g.block _ (lt_of_block T10)).trans T10); (replace T11 := (g.block _ (lt_of_block T11)).trans T11); (replace T12 := (g.block _ (lt_of_block T12)).trans T12); (replace a0 := (g.block _ (lt_of_block a0)).trans a0); (replace a7 := (g.block _ (lt_of_block a7)).trans a7); (replace Q12 := chain Q12 g); clear ca0 ca1 ca2 ca3 ca4 ca5 caf cb0 cb1 cb2 cb3 cb4 cb5 cbf cc0 cc1 cc2 cc3 cc4 cc5 ccf cd0 cd1 cd2 cd3 cd4 cd5 cdf ce0 ce1 ce2 ce3 ce4 ce5 cef cf0 cf1 cf2 cf3 cf4 cf5 cff g; (obtain ⟨ca0, ca1, ca2, ca3, ca4, ca5, caf⟩ := block_cells6 T7); (obtain ⟨cb0, cb1, cb2, cb3, cb4, cb5, cbf⟩ := block_cells6 T8); (obtain ⟨cc0, cc1, cc2, cc3, cc4, cc5, ccf⟩ := block_cells6 T9); (obtain ⟨cd0, cd1, cd2, cd3, cd4, cd5, cdf⟩ := block_cells6 T10); (obtain ⟨ce0, ce1, ce2, ce3, ce4, ce5, cef⟩ := block_cells6 T11); (obtain ⟨cf0, cf1, cf2, cf3, cf4, cf5, cff⟩ := block_cells6 T12)) | ((with_reducible refine (SA3.out _ Q12).mono ?_); rintro e w23 ⟨rfl, g⟩; (replace T7 := (g.block _ (lt_of_block T7)).trans T7); (replace T8 := (g.block _ (lt_of_block T8)).trans T8); (replace T9 := (g.block _ (lt_of_block T9)).trans T9); (replace T10 := (g.block _ (lt_of_block T10)).trans T10); (replace T11 := (g.block _ (lt_of_block T11)).trans T11); (replace T12 := (g.block _ (lt_of_block T12)).trans T12); (replace a0 := (g.block _ (lt_of_block a0)).trans a0); (replace a7 := (g.block _ (lt_of_block a7)).trans a7); (replace Q12 := chain Q12 g); clear ca0 ca1 ca2 ca3 ca4 ca5 caf cb0 cb1 cb2 cb3 cb4 cb5 cbf cc0 cc1 cc2 cc3 cc4 cc5 ccf cd0 cd1 cd2 cd3 cd4 cd5 cdf ce0 ce1 ce2 ce3 ce4 ce5 cef cf0 cf1 cf2 cf3 cf4 cf5 cff g; (obtain ⟨ca0, ca1, ca2, ca3, ca4, ca5, caf⟩ := block_cells6 T7); (obtain ⟨cb0, cb1, cb2, cb3, cb4, cb5, cbf⟩ := block_cells6 T8); (obtain ⟨cc0, cc1, cc2, cc3, cc4, cc5, ccf⟩ := block_cells6 T9); (obtain ⟨cd0, cd1, cd2, cd3, cd4, cd5, cdf⟩ := block_cells6 T10); (obtain ⟨ce0, ce1, ce2, ce3, ce4, ce5, cef⟩ := block_cells6 T11); (obtain ⟨cf0, cf1, cf2, cf3, cf4, cf5, cff⟩ := block_cells6 T12)))
  clear ca0 ca1 ca2 ca3 ca4 ca5 caf cb0 cb1 cb2 cb3 cb4 cb5 cbf cc0 cc1 cc2 cc3 cc4 cc5 ccf cd0 cd1 cd2 cd3 cd4 cd5 cdf ce0 ce1 ce2 ce3 ce4 ce5 cef cf0 cf1 cf2 cf3 cf4 cf5 cff T7 T8 T9 T10 T11 T12
  have B13 := chain B12 Q12
  clear B12 Q12 SA1 SA2 SA3
  replace a0 := show w23.drew.heap[w.heap.size]? = _ from a0
  replace a7 := show w23.drew.heap[W3.heap.size]? = _ from a7
  replace B13 := B13.drew
  refine g_start (by kernel_rfl) ?_
  refine g_take (i := 0) (d := (some 110)) (v := ?_) rfl rfl (by kernel_rfl) (fun _ _ _ h => h) (by rfl) (fun w' hb' => ?_) ?_
  rotate_left
  · obtain ⟨d0, d1, d2, d3, d4, d5, df⟩ := block_cells6 ((hb'.block _ (lt_of_block a0)).trans a0); (try go_simp); (try with_reducible rfl)
  try simp only [Act.put, List.setIfInBounds_toArray, List.set_cons_zero, List.set_cons_succ]
  refine g_take (i := 2) (d := (some 112)) (v := ?_) rfl rfl (by kernel_rfl) (fun _ _ _ h => h) (by rfl) (fun w' hb' => ?_) ?_
  rotate_left
  · obtain ⟨d0, d1, d2, d3, d4, d5, df⟩ := block_cells6 ((hb'.block _ (lt_of_block a0)).trans a0); (try go_simp); (try with_reducible rfl)
  try simp only [Act.put, List.setIfInBounds_toArray, List.set_cons_zero, List.set_cons_succ]
  refine g_run (i := 1) rfl (by kernel_rfl) (by rfl) (fun K hK => ?_)
  go_simp; refine (MA.out _ B13).mono ?_; rintro e w31 ⟨rfl, g⟩; have a0_1 := (g.block _ (lt_of_block a0)).trans a0; have a7_1 := (g.block _ (lt_of_block a7)).trans a7; have B1 := chain B13 g; refine hK _ _ ⟨g, ?_⟩; clear hK K g
  try simp only [Act.put, List.setIfInBounds_toArray, List.set_cons_zero, List.set_cons_succ]
  refine g_run (i := 3) rfl (by kernel_rfl) (by rfl) (fun K hK => ?_)
  go_simp; refine (MB.out _ B1).mono ?_; rintro e w32 ⟨rfl, g⟩; have a0_2 := (g.block _ (lt_of_block a0_1)).trans a0_1; have a7_2 := (g.block _ (lt_of_block a7_1)).trans a7_1; have B2 := chain B1 g; refine hK _ _ ⟨g, ?_⟩; clear hK K g
  try simp only [Act.put, List.setIfInBounds_toArray, List.set_cons_zero, List.set_cons_succ]
  refine g_take (i := 4) (d := (some 114)) (v := ?_) rfl rfl (by kernel_rfl) (fun _ _ _ h => h) (by rfl) (fun w' hb' => ?_) ?_
  rotate_left
  · (try go_simp); (try with_reducible rfl)
  try simp only [Act.put, List.setIfInBounds_toArray, List.set_cons_zero, List.set_cons_succ]
  refine g_take (i := 5) (d := (some 115)) (v := ?_) rfl rfl (by kernel_rfl) (fun _ _ _ h => h) (by rfl) (fun w' hb' => ?_) ?_
  rotate_left
  · (try go_simp); (try with_reducible rfl)
  try simp only [Act.put, List.setIfInBounds_toArray, List.set_cons_zero, List.set_cons_succ]
  refine g_take (i := 6) (d := (some 116)) (v := ?_) rfl rfl (by kernel_rfl) (fun _ _ _ h => h) (by rfl) (fun w' hb' => ?_) ?_
  rotate_left
  · obtain ⟨d0, d1, d2, d3, d4, d5, df⟩ := block_cells6 ((hb'.block _ (lt_of_block a0_2)).trans a0_2); (try go_simp); (try with_reducible rfl)
  try simp only [Act.put, List.setIfInBounds_toArray, List.set_cons_zero, List.set_cons_succ]
  refine g_take (i := 7) (d := (some 117)) (v := ?_) rfl rfl (by kernel_rfl) (fun _ _ _ h => h) (by rfl) (fun w' hb' => ?_) ?_
  rotate_left
  · obtain ⟨d0, d1, d2, d3, d4, d5, df⟩ := block_cells6 ((hb'.block _ (lt_of_block a7_2)).trans a7_2); (try go_simp); (try with_reducible rfl)
  try simp only [Act.put, List.setIfInBounds_toArray, List.set_cons_zero, List.set_cons_succ]
  refine g_run (i := 8) rfl (by kernel_rfl) (by rfl) (fun K hK => ?_)
  go_simp; refine (MC.out _ B2).mono ?_; rintro e w33 ⟨rfl, g⟩; have a0_3 := (g.block _ (lt_of_block a0_2)).trans a0_2; have a7_3 := (g.block _ (lt_of_block a7_2)).trans a7_2; have B3 := chain B2 g; refine hK _ _ ⟨g, ?_⟩; clear hK K g
  try simp only [Act.put, List.setIfInBounds_toArray, List.set_cons_zero, List.set_cons_succ]
  refine g_take (i := 9) (d := (some 119)) (v := ?_) rfl rfl (by kernel_rfl) (fun _ _ _ h => h) (by rfl) (fun w' hb' => ?_) ?_
  rotate_left
  · (try go_simp); (try with_reducible rfl)
  try simp only [Act.put, List.setIfInBounds_toArray, List.set_cons_zero, List.set_cons_succ]
  refine g_take (i := 10) (d := (some 120)) (v := ?_) rfl rfl (by kernel_rfl) (fun _ _ _ h => h) (by rfl) (fun w' hb' => ?_) ?_
  rotate_left
  · (try go_simp); (try with_reducible rfl)
  try simp only [Act.put, List.setIfInBounds_toArray, List.set_cons_zero, List.set_cons_succ]
  refine g_run (i := 11) rfl (by kernel_rfl) (by rfl) (fun K hK => ?_)
  go_simp; refine (MD.out _ B3).mono ?_; rintro e w35 ⟨rfl, g⟩; have a0_5 := (g.block _ (lt_of_block a0_3)).trans a0_3; have a7_5 := (g.block _ (lt_of_block a7_3)).trans a7_3; have B5 := chain B3 g; refine hK _ _ ⟨g, ?_⟩; clear hK K g
  try simp only [Act.put, List.setIfInBounds_toArray, List.set_cons_zero, List.set_cons_succ]
  refine g_take (i := 12) (d := (some 122)) (v := ?_) rfl rfl (by kernel_rfl) (fun _ _ _ h => h) (by rfl) (fun w' hb' => ?_) ?_
  rotate_left
  · (try go_simp); (try with_reducible rfl)
  try simp only [Act.put, List.setIfInBounds_toArray, List.set_cons_zero, List.set_cons_succ]
  refine g_take (i := 13) (d := (some 6)) (v := ?_) rfl rfl (by kernel_rfl) (fun _ _ _ h => h) (by rfl) (fun w' hb' => ?_) ?_
  rotate_left
  · (try go_simp); (try with_reducible rfl)
  try simp only [Act.put, List.setIfInBounds_toArray, List.set_cons_zero, List.set_cons_succ]
  refine g_done (by kernel_rfl) ?_
  go_wp2_with fail
  go_ret
  exact ⟨rfl, chain bel6.out B5⟩
/-- The law SlotDoes, as its row has it. -/
theorem does_row (s0 : Sl) (vP vC : Value) (x : Vt) (t : ByteArray) (w : World) (h : RdS w s0 vP vC) (ht : t.size ≤ maxLen) (hT : TabAt w) :
    Calls Tryd.prog 3 #[sV s0 vP vC, vtV x, .string t] w fun e w' => e = .returned (.bool true) ∧ Below w.heap.size w w' := by
  have h1 := does_walk s0 _ _ _ _ _ _ vP vC x.fr x.vw x.tm t.data.toList w h (by rw [Array.length_toList]; exact ht) hT rfl
  rw [str_of29] at h1
  exact h1
end Go.Proofs.YtgmblgpfgdfnaaaDoor
