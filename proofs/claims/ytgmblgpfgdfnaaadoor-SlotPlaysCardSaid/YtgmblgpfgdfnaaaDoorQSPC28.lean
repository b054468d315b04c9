/- Slots: the document's Prepare and Commit. Written by wip/tools/gen29u.py. -/
import Derived.Test.YtgmblgpfgdfnaaaDoorQSPC26
import Derived.Test.YtgmblgpfgdfnaaaDoorQSPC27
namespace Go.Proofs.YtgmblgpfgdfnaaaDoor
open Go Go.RowKit
set_option linter.unusedVariables false
set_option linter.unusedSimpArgs false
set_option maxRecDepth 100000
theorem rdt_six {w w' : World} {B : Nat} {h : Bool} {v t : Int} {s : ByteArray} {P C : Value} {T : TypeId} {x : Value} {l : List Vt} (hP : ∃ a n c, P = Value.slice a n c) (hC : ∃ a n c, C = Value.slice a n c) (h0 : w.heap[B]? = some (.cells #[.bool h, .int .i64 v, .int .i64 t, .string s, P, C] T (0, 0))) (g : w.grownBy w' (some B)) (r : RdT w x l) : RdT w' x l := by
  obtain ⟨x1, n1, c1, rfl⟩ := hP
  obtain ⟨x2, n2, c2, rfl⟩ := hC
  obtain ⟨ao, cap, rfl, h1, h2, h3, h4⟩ := r
  refine ⟨ao, cap, rfl, h1, h2, h3, fun hl => ?_⟩
  obtain ⟨b, off, rfl, hb, hc⟩ := h4 hl
  have hne : b ≠ B := by
    rintro rfl
    have e0 := hc 0 (by omega)
    have e1 := hc 1 (by omega)
    have e2 := hc 2 (by omega)
    cases l with
    | nil => simp at hl
    | cons y r =>
      simp [vtC, World.cell?, h0] at e0 e1 e2
      rcases off with _ | _ | _ | _ | _ | _ | off <;> simp at e0 e1 e2
  refine ⟨b, off, rfl, Nat.lt_of_lt_of_le hb g.size, fun k hk => ?_⟩
  rw [← hc k hk]
  simp only [World.cell?]
  rw [g.block b hb (fun e => hne (by injection e))]
theorem one_slice (a : Option Addr) (n c : Nat) : ∃ a' n' c', Value.slice a n c = Value.slice a' n' c' := ⟨a, n, c, rfl⟩
/-- What comes back is a slot, to be read, and an error's number. -/
def GivesR (w : World) (s : Sl) (code : Nat) (e : Ending) (w' : World) : Prop := ∃ a1 n1 c1 a2 n2 c2, e = .returned (.tuple #[sV s (.slice a1 n1 c1) (.slice a2 n2 c2), .int .i64 (code : Int)]) ∧ RdS w' s (.slice a1 n1 c1) (.slice a2 n2 c2) ∧ Below w.heap.size w w'
set_option maxHeartbeats 2000000 in
theorem rprep_any (s : Sl) (vP vC : Value) (v : Vt) (w : World) (h : RdS w s vP vC) : Calls Tryd.prog 12 #[sV s vP vC, vtV v] w (GivesR w (prepR s v) (castE s s.ps v)) := by
  obtain ⟨pa, pn, pc, rfl⟩ := rdt_val h.p
  obtain ⟨ca, cn, cc, rfl⟩ := rdt_val h.c
  have MY0 := fun w' (g : Below w.heap.size w w') => refMay_any s _ _ w' (h.below g (Nat.le_refl _))
  have VO0 := fun w' => refVote_any v w'
  have LA0 := fun (hm : mayS s = true) w' (g : Below w.heap.size w w') => lay_any _ s.ps v.fr v.vw v.tm w' (h.p.below g (Nat.le_refl _)) (mayS_are hm).1
  have RP := Lib.hid (fun w' (g : Below w.heap.size w w') => RdT.below h.p g (Nat.le_refl _))
  have RC := Lib.hid (fun w' (g : Below w.heap.size w w') => RdT.below h.c g (Nat.le_refl _))
  have HBL := Lib.hid h.b
  have HR0 : prepR s v = if castE s s.ps v = 0 then _ else sl0 := rfl
  have HE0 : castE s s.ps v = if (mayS s && voteB v) = false then 1 else layE s.ps v := rfl
  obtain ⟨E, hE⟩ : ∃ E, E = castE s s.ps v := ⟨_, rfl⟩
  obtain ⟨R, hR⟩ : ∃ R, R = prepR s v := ⟨_, rfl⟩
  rw [← hE, ← hR] at HR0
  rw [← hE] at HE0
  rw [← hE, ← hR]
  obtain ⟨Z, hZ⟩ : ∃ Z, Z = GivesR w R E := ⟨_, rfl⟩
  rw [← hZ]
  have HZ := Lib.hid hZ
  clear hE hR hZ
  obtain ⟨a, b, c⟩ := v
  obtain ⟨has, vw, tm, body, ps, cs⟩ := s
  unfold sV at MY0 ⊢
  unfold vtV at VO0 ⊢
  simp only at MY0 VO0 LA0 HR0 HE0 RP RC HBL ⊢
  obtain ⟨S, hS⟩ : ∃ S, S = str body := ⟨_, rfl⟩
  rw [← hS] at MY0 ⊢
  have HS := Lib.hid hS
  obtain ⟨m, hm⟩ : ∃ m, m = mayS ⟨has, vw, tm, body, ps, cs⟩ := ⟨_, rfl⟩
  obtain ⟨u, hu⟩ : ∃ u, u = voteB ⟨a, b, c⟩ := ⟨_, rfl⟩
  have LA1 := fun (q : m = true) => LA0 (by rw [← hm]; exact q)
  rw [← hm] at MY0 HE0
  rw [← hu] at VO0 HE0
  obtain ⟨X, hX⟩ : ∃ X, X = layE ps ⟨a, b, c⟩ := ⟨_, rfl⟩
  rw [← hX] at LA1 HE0
  have MY := Lib.hid MY0
  have VO := Lib.hid VO0
  have HEE := Lib.hid HE0
  have HRE := Lib.hid HR0
  obtain ⟨q0, q1, q2, bel⟩ := three_allocs w (.cells #[.bool has, .int .i64 vw, .int .i64 tm, .string S, .slice pa pn pc, .slice ca cn cc] 24) (.cells #[.int .i64 a, .int .i64 b, .int .i64 c] 26) (.cells #[.bool false, .int .i64 0, .int .i64 0, .string ⟨#[]⟩, .slice none 0 0, .slice none 0 0] 24)
  obtain ⟨d0, d1, d2, d3, d4, d5, df⟩ := block_cells6 q0
  obtain ⟨e0, e1, e2, ef⟩ := block_cells3 q1
  obtain ⟨z0, z1, z2, z3, z4, z5, zf⟩ := block_cells6 q2
  clear h MY0 VO0 LA0 HE0 HR0 hS hm hu hX
  cases m with
  | false =>
    have HEZ := Lib.hid (show E = 1 by rw [HEE.out]; rfl)
    have HRZ := Lib.hid (show R = sl0 by rw [HRE.out, if_neg (by rw [HEZ.out]; decide)])
    clear LA1
    go_enter Tryd.func12, Tryd.ntmps12
    go_wp2_with (first | ((with_reducible refine (MY.out _ bel).mono ?_); rintro e w2 ⟨rfl, g⟩; (replace q0 := (g.block _ (lt_of_block q0)).trans q0); (replace q1 := (g.block _ (lt_of_block q1)).trans q1); (replace q2 := (g.block _ (lt_of_block q2)).trans q2); (clear d0 d1 d2 d3 d4 d5 df e0 e1 e2 ef z0 z1 z2 z3 z4 z5 zf); (obtain ⟨d0, d1, d2, d3, d4, d5, df⟩ := block_cells6 q0); (obtain ⟨e0, e1, e2, ef⟩ := block_cells3 q1); (obtain ⟨z0, z1, z2, z3, z4, z5, zf⟩ := block_cells6 q2); (replace bel := chain bel g); clear g) | ((with_reducible refine (VO.out _).mono ?_); rintro e w3 ⟨rfl, g⟩; (replace q0 := (g.block _ (lt_of_block q0)).trans q0); (replace q1 := (g.block _ (lt_of_block q1)).trans q1); (replace q2 := (g.block _ (lt_of_block q2)).trans q2); (clear d0 d1 d2 d3 d4 d5 df e0 e1 e2 ef z0 z1 z2 z3 z4 z5 zf); (obtain ⟨d0, d1, d2, d3, d4, d5, df⟩ := block_cells6 q0); (obtain ⟨e0, e1, e2, ef⟩ := block_cells3 q1); (obtain ⟨z0, z1, z2, z3, z4, z5, zf⟩ := block_cells6 q2); (replace bel := chain bel g); clear g))
    have QZ := Lib.hid (set6_new (u0 := .bool false) (u1 := .int .i64 0) (u2 := .int .i64 0) (u3 := .string ⟨#[]⟩) (u4 := .slice none 0 0) (u5 := .slice none 0 0) q2)
    have FB := Lib.hid (below_grownB bel (set6_grown (w := _) (B := w.heap.size + 2) (u0 := .bool false) (u1 := .int .i64 0) (u2 := .int .i64 0) (u3 := .string ⟨#[]⟩) (u4 := .slice none 0 0) (u5 := .slice none 0 0)) bel.size (by omega))
    (try simp only [Exit.inBlock, Exit.then])
    refine bodyPost_ret (results_cell_row_tmp rfl _ _ _ _ _ (0, 0) _ rfl QZ.out Tryd.underlying24 rfl slot_size) rfl ?_
    show Z (.returned _) _
    rw [HZ.out, HRZ.out]
    exact ⟨none, 0, 0, none, 0, 0, by rw [HEZ.out]; rfl, rds0 _, FB.out⟩
  | true =>
    cases u with
    | false =>
      have HEZ := Lib.hid (show E = 1 by rw [HEE.out]; rfl)
      have HRZ := Lib.hid (show R = sl0 by rw [HRE.out, if_neg (by rw [HEZ.out]; decide)])
      clear LA1
      go_enter Tryd.func12, Tryd.ntmps12
      go_wp2_with (first | ((with_reducible refine (MY.out _ bel).mono ?_); rintro e w2 ⟨rfl, g⟩; (replace q0 := (g.block _ (lt_of_block q0)).trans q0); (replace q1 := (g.block _ (lt_of_block q1)).trans q1); (replace q2 := (g.block _ (lt_of_block q2)).trans q2); (clear d0 d1 d2 d3 d4 d5 df e0 e1 e2 ef z0 z1 z2 z3 z4 z5 zf); (obtain ⟨d0, d1, d2, d3, d4, d5, df⟩ := block_cells6 q0); (obtain ⟨e0, e1, e2, ef⟩ := block_cells3 q1); (obtain ⟨z0, z1, z2, z3, z4, z5, zf⟩ := block_cells6 q2); (replace bel := chain bel g); clear g) | ((with_reducible refine (VO.out _).mono ?_); rintro e w3 ⟨rfl, g⟩; (replace q0 := (g.block _ (lt_of_block q0)).trans q0); (replace q1 := (g.block _ (lt_of_block q1)).trans q1); (replace q2 := (g.block _ (lt_of_block q2)).trans q2); (clear d0 d1 d2 d3 d4 d5 df e0 e1 e2 ef z0 z1 z2 z3 z4 z5 zf); (obtain ⟨d0, d1, d2, d3, d4, d5, df⟩ := block_cells6 q0); (obtain ⟨e0, e1, e2, ef⟩ := block_cells3 q1); (obtain ⟨z0, z1, z2, z3, z4, z5, zf⟩ := block_cells6 q2); (replace bel := chain bel g); clear g))
      have QZ := Lib.hid (set6_new (u0 := .bool false) (u1 := .int .i64 0) (u2 := .int .i64 0) (u3 := .string ⟨#[]⟩) (u4 := .slice none 0 0) (u5 := .slice none 0 0) q2)
      have FB := Lib.hid (below_grownB bel (set6_grown (w := _) (B := w.heap.size + 2) (u0 := .bool false) (u1 := .int .i64 0) (u2 := .int .i64 0) (u3 := .string ⟨#[]⟩) (u4 := .slice none 0 0) (u5 := .slice none 0 0)) bel.size (by omega))
      (try simp only [Exit.inBlock, Exit.then])
      refine bodyPost_ret (results_cell_row_tmp rfl _ _ _ _ _ (0, 0) _ rfl QZ.out Tryd.underlying24 rfl slot_size) rfl ?_
      show Z (.returned _) _
      rw [HZ.out, HRZ.out]
      exact ⟨none, 0, 0, none, 0, 0, by rw [HEZ.out]; rfl, rds0 _, FB.out⟩
    | true =>
      have LA := Lib.hid (LA1 rfl)
      have HEZ := Lib.hid (show E = X by rw [HEE.out]; rfl)
      clear LA1
      by_cases h0 : X = 0
      · subst h0
        have HRZ := Lib.hid (show R = ⟨has, vw, tm, body, layL ps ⟨a, b, c⟩, cs⟩ by rw [HRE.out, if_pos HEZ.out])
        rw [if_pos rfl] at LA
        go_enter Tryd.func12, Tryd.ntmps12
        go_wp2_with (first | ((with_reducible refine (MY.out _ bel).mono ?_); rintro e w2 ⟨rfl, g⟩; (replace q0 := (g.block _ (lt_of_block q0)).trans q0); (replace q1 := (g.block _ (lt_of_block q1)).trans q1); (replace q2 := (g.block _ (lt_of_block q2)).trans q2); (clear d0 d1 d2 d3 d4 d5 df e0 e1 e2 ef z0 z1 z2 z3 z4 z5 zf); (obtain ⟨d0, d1, d2, d3, d4, d5, df⟩ := block_cells6 q0); (obtain ⟨e0, e1, e2, ef⟩ := block_cells3 q1); (obtain ⟨z0, z1, z2, z3, z4, z5, zf⟩ := block_cells6 q2); (replace bel := chain bel g); clear g) | ((with_reducible refine (VO.out _).mono ?_); rintro e w3 ⟨rfl, g⟩; (replace q0 := (g.block _ (lt_of_block q0)).trans q0); (replace q1 := (g.block _ (lt_of_block q1)).trans q1); (replace q2 := (g.block _ (lt_of_block q2)).trans q2); (clear d0 d1 d2 d3 d4 d5 df e0 e1 e2 ef z0 z1 z2 z3 z4 z5 zf); (obtain ⟨d0, d1, d2, d3, d4, d5, df⟩ := block_cells6 q0); (obtain ⟨e0, e1, e2, ef⟩ := block_cells3 q1); (obtain ⟨z0, z1, z2, z3, z4, z5, zf⟩ := block_cells6 q2); (replace bel := chain bel g); clear g) | ((with_reducible refine (LA.out _ bel).mono ?_); rintro e w4 ⟨p9, n9, c9, rfl, HLr, g⟩; (have HL := Lib.hid HLr); clear HLr; (replace q0 := (g.block _ (lt_of_block q0)).trans q0); (replace q1 := (g.block _ (lt_of_block q1)).trans q1); (replace q2 := (g.block _ (lt_of_block q2)).trans q2); (clear d0 d1 d2 d3 d4 d5 df e0 e1 e2 ef z0 z1 z2 z3 z4 z5 zf); (obtain ⟨d0, d1, d2, d3, d4, d5, df⟩ := block_cells6 q0); (obtain ⟨e0, e1, e2, ef⟩ := block_cells3 q1); (obtain ⟨z0, z1, z2, z3, z4, z5, zf⟩ := block_cells6 q2); (replace bel := chain bel g); clear g))
        have G5 : w4.grownBy (w4.setCell ⟨w.heap.size, 4, none⟩ (.slice p9 n9 c9)) (some w.heap.size) := grown_setB grown_reflB
        have q2' : (w4.setCell ⟨w.heap.size, 4, none⟩ (.slice p9 n9 c9)).heap[w.heap.size + 2]? = _ := (set_old (by omega)).trans q2
        have QZ := Lib.hid (set6_new (u0 := .bool has) (u1 := .int .i64 vw) (u2 := .int .i64 tm) (u3 := .string S) (u4 := .slice p9 n9 c9) (u5 := .slice ca cn cc) q2')
        have G6 := set6_grown (w := w4.setCell ⟨w.heap.size, 4, none⟩ (.slice p9 n9 c9)) (B := w.heap.size + 2) (u0 := .bool has) (u1 := .int .i64 vw) (u2 := .int .i64 tm) (u3 := .string S) (u4 := .slice p9 n9 c9) (u5 := .slice ca cn cc)
        have BW5 := below_grownB bel G5 bel.size (Nat.le_refl _)
        have BW6 := below_grownB BW5 G6 BW5.size (by omega)
        have L6 := rdt_six (one_slice _ _ _) (one_slice _ _ _) q2' G6 (rdt_six (one_slice _ _ _) (one_slice _ _ _) q0 G5 HL.out)
        have O6 := rdt_six (one_slice _ _ _) (one_slice _ _ _) q2' G6 (rdt_six (one_slice _ _ _) (one_slice _ _ _) q0 G5 (RC.out _ bel))
        (try simp only [Exit.inBlock, Exit.then])
        refine bodyPost_ret (results_cell_row_tmp rfl _ _ _ _ _ (0, 0) _ rfl QZ.out Tryd.underlying24 rfl slot_size) rfl ?_
        show Z (.returned _) _
        rw [HZ.out, HRZ.out]
        exact ⟨p9, n9, c9, ca, cn, cc, by rw [HEZ.out, HS.out]; rfl, ⟨L6, O6, HBL.out⟩, BW6⟩
      · have HRZ := Lib.hid (show R = sl0 by rw [HRE.out, if_neg (by rw [HEZ.out]; exact h0)])
        have f1 : ((X : Int) == 0) = false := by simpa using h0
        go_enter Tryd.func12, Tryd.ntmps12
        go_wp2_with (first | ((with_reducible refine (MY.out _ bel).mono ?_); rintro e w2 ⟨rfl, g⟩; (replace q0 := (g.block _ (lt_of_block q0)).trans q0); (replace q1 := (g.block _ (lt_of_block q1)).trans q1); (replace q2 := (g.block _ (lt_of_block q2)).trans q2); (clear d0 d1 d2 d3 d4 d5 df e0 e1 e2 ef z0 z1 z2 z3 z4 z5 zf); (obtain ⟨d0, d1, d2, d3, d4, d5, df⟩ := block_cells6 q0); (obtain ⟨e0, e1, e2, ef⟩ := block_cells3 q1); (obtain ⟨z0, z1, z2, z3, z4, z5, zf⟩ := block_cells6 q2); (replace bel := chain bel g); clear g) | ((with_reducible refine (VO.out _).mono ?_); rintro e w3 ⟨rfl, g⟩; (replace q0 := (g.block _ (lt_of_block q0)).trans q0); (replace q1 := (g.block _ (lt_of_block q1)).trans q1); (replace q2 := (g.block _ (lt_of_block q2)).trans q2); (clear d0 d1 d2 d3 d4 d5 df e0 e1 e2 ef z0 z1 z2 z3 z4 z5 zf); (obtain ⟨d0, d1, d2, d3, d4, d5, df⟩ := block_cells6 q0); (obtain ⟨e0, e1, e2, ef⟩ := block_cells3 q1); (obtain ⟨z0, z1, z2, z3, z4, z5, zf⟩ := block_cells6 q2); (replace bel := chain bel g); clear g) | ((with_reducible refine (LA.out _ bel).mono ?_); rintro e w4 ⟨p9, n9, c9, rfl, HLr, g⟩; (have HL := Lib.hid HLr); clear HLr; (replace q0 := (g.block _ (lt_of_block q0)).trans q0); (replace q1 := (g.block _ (lt_of_block q1)).trans q1); (replace q2 := (g.block _ (lt_of_block q2)).trans q2); (clear d0 d1 d2 d3 d4 d5 df e0 e1 e2 ef z0 z1 z2 z3 z4 z5 zf); (obtain ⟨d0, d1, d2, d3, d4, d5, df⟩ := block_cells6 q0); (obtain ⟨e0, e1, e2, ef⟩ := block_cells3 q1); (obtain ⟨z0, z1, z2, z3, z4, z5, zf⟩ := block_cells6 q2); (replace bel := chain bel g); clear g))
        have QZ := Lib.hid (set6_new (u0 := .bool false) (u1 := .int .i64 0) (u2 := .int .i64 0) (u3 := .string ⟨#[]⟩) (u4 := .slice none 0 0) (u5 := .slice none 0 0) q2)
        have FB := Lib.hid (below_grownB bel (set6_grown (w := _) (B := w.heap.size + 2) (u0 := .bool false) (u1 := .int .i64 0) (u2 := .int .i64 0) (u3 := .string ⟨#[]⟩) (u4 := .slice none 0 0) (u5 := .slice none 0 0)) bel.size (by omega))
        (try simp only [Exit.inBlock, Exit.then])
        refine bodyPost_ret (results_cell_row_tmp rfl _ _ _ _ _ (0, 0) _ rfl QZ.out Tryd.underlying24 rfl slot_size) rfl ?_
        show Z (.returned _) _
        rw [HZ.out, HRZ.out]
        exact ⟨none, 0, 0, none, 0, 0, by rw [HEZ.out]; rfl, rds0 _, FB.out⟩
set_option maxHeartbeats 2000000 in
theorem rcom_any (s : Sl) (vP vC : Value) (v : Vt) (w : World) (h : RdS w s vP vC) : Calls Tryd.prog 13 #[sV s vP vC, vtV v] w (GivesR w (comR s v) (castE s s.cs v)) := by
  obtain ⟨pa, pn, pc, rfl⟩ := rdt_val h.p
  obtain ⟨ca, cn, cc, rfl⟩ := rdt_val h.c
  have MY0 := fun w' (g : Below w.heap.size w w') => refMay_any s _ _ w' (h.below g (Nat.le_refl _))
  have VO0 := fun w' => refVote_any v w'
  have LA0 := fun (hm : mayS s = true) w' (g : Below w.heap.size w w') => lay_any _ s.cs v.fr v.vw v.tm w' (h.c.below g (Nat.le_refl _)) (mayS_are hm).2.1
  have RP := Lib.hid (fun w' (g : Below w.heap.size w w') => RdT.below h.p g (Nat.le_refl _))
  have RC := Lib.hid (fun w' (g : Below w.heap.size w w') => RdT.below h.c g (Nat.le_refl _))
  have HBL := Lib.hid h.b
  have HR0 : comR s v = if castE s s.cs v = 0 then _ else sl0 := rfl
  have HE0 : castE s s.cs v = if (mayS s && voteB v) = false then 1 else layE s.cs v := rfl
  obtain ⟨E, hE⟩ : ∃ E, E = castE s s.cs v := ⟨_, rfl⟩
  obtain ⟨R, hR⟩ : ∃ R, R = comR s v := ⟨_, rfl⟩
  rw [← hE, ← hR] at HR0
  rw [← hE] at HE0
  rw [← hE, ← hR]
  obtain ⟨Z, hZ⟩ : ∃ Z, Z = GivesR w R E := ⟨_, rfl⟩
  rw [← hZ]
  have HZ := Lib.hid hZ
  clear hE hR hZ
  obtain ⟨a, b, c⟩ := v
  obtain ⟨has, vw, tm, body, ps, cs⟩ := s
  unfold sV at MY0 ⊢
  unfold vtV at VO0 ⊢
  simp only at MY0 VO0 LA0 HR0 HE0 RP RC HBL ⊢
  obtain ⟨S, hS⟩ : ∃ S, S = str body := ⟨_, rfl⟩
  rw [← hS] at MY0 ⊢
  have HS := Lib.hid hS
  obtain ⟨m, hm⟩ : ∃ m, m = mayS ⟨has, vw, tm, body, ps, cs⟩ := ⟨_, rfl⟩
  obtain ⟨u, hu⟩ : ∃ u, u = voteB ⟨a, b, c⟩ := ⟨_, rfl⟩
  have LA1 := fun (q : m = true) => LA0 (by rw [← hm]; exact q)
  rw [← hm] at MY0 HE0
  rw [← hu] at VO0 HE0
  obtain ⟨X, hX⟩ : ∃ X, X = layE cs ⟨a, b, c⟩ := ⟨_, rfl⟩
  rw [← hX] at LA1 HE0
  have MY := Lib.hid MY0
  have VO := Lib.hid VO0
  have HEE := Lib.hid HE0
  have HRE := Lib.hid HR0
  obtain ⟨q0, q1, q2, bel⟩ := three_allocs w (.cells #[.bool has, .int .i64 vw, .int .i64 tm, .string S, .slice pa pn pc, .slice ca cn cc] 24) (.cells #[.int .i64 a, .int .i64 b, .int .i64 c] 26) (.cells #[.bool false, .int .i64 0, .int .i64 0, .string ⟨#[]⟩, .slice none 0 0, .slice none 0 0] 24)
  obtain ⟨d0, d1, d2, d3, d4, d5, df⟩ := block_cells6 q0
  obtain ⟨e0, e1, e2, ef⟩ := block_cells3 q1
  obtain ⟨z0, z1, z2, z3, z4, z5, zf⟩ := block_cells6 q2
  clear h MY0 VO0 LA0 HE0 HR0 hS hm hu hX
  cases m with
  | false =>
    have HEZ := Lib.hid (show E = 1 by rw [HEE.out]; rfl)
    have HRZ := Lib.hid (show R = sl0 by rw [HRE.out, if_neg (by rw [HEZ.out]; decide)])
    clear LA1
    go_enter Tryd.func13, Tryd.ntmps13
    go_wp2_with (first | ((with_reducible refine (MY.out _ bel).mono ?_); rintro e w2 ⟨rfl, g⟩; (replace q0 := (g.block _ (lt_of_block q0)).trans q0); (replace q1 := (g.block _ (lt_of_block q1)).trans q1); (replace q2 := (g.block _ (lt_of_block q2)).trans q2); (clear d0 d1 d2 d3 d4 d5 df e0 e1 e2 ef z0 z1 z2 z3 z4 z5 zf); (obtain ⟨d0, d1, d2, d3, d4, d5, df⟩ := block_cells6 q0); (obtain ⟨e0, e1, e2, ef⟩ := block_cells3 q1); (obtain ⟨z0, z1, z2, z3, z4, z5, zf⟩ := block_cells6 q2); (replace bel := chain bel g); clear g) | ((with_reducible refine (VO.out _).mono ?_); rintro e w3 ⟨rfl, g⟩; (replace q0 := (g.block _ (lt_of_block q0)).trans q0); (replace q1 := (g.block _ (lt_of_block q1)).trans q1); (replace q2 := (g.block _ (lt_of_block q2)).trans q2); (clear d0 d1 d2 d3 d4 d5 df e0 e1 e2 ef z0 z1 z2 z3 z4 z5 zf); (obtain ⟨d0, d1, d2, d3, d4, d5, df⟩ := block_cells6 q0); (obtain ⟨e0, e1, e2, ef⟩ := block_cells3 q1); (obtain ⟨z0, z1, z2, z3, z4, z5, zf⟩ := block_cells6 q2); (replace bel := chain bel g); clear g))
    have QZ := Lib.hid (set6_new (u0 := .bool false) (u1 := .int .i64 0) (u2 := .int .i64 0) (u3 := .string ⟨#[]⟩) (u4 := .slice none 0 0) (u5 := .slice none 0 0) q2)
    have FB := Lib.hid (below_grownB bel (set6_grown (w := _) (B := w.heap.size + 2) (u0 := .bool false) (u1 := .int .i64 0) (u2 := .int .i64 0) (u3 := .string ⟨#[]⟩) (u4 := .slice none 0 0) (u5 := .slice none 0 0)) bel.size (by omega))
    (try simp only [Exit.inBlock, Exit.then])
    refine bodyPost_ret (results_cell_row_tmp rfl _ _ _ _ _ (0, 0) _ rfl QZ.out Tryd.underlying24 rfl slot_size) rfl ?_
    show Z (.returned _) _
    rw [HZ.out, HRZ.out]
    exact ⟨none, 0, 0, none, 0, 0, by rw [HEZ.out]; rfl, rds0 _, FB.out⟩
  | true =>
    cases u with
    | false =>
      have HEZ := Lib.hid (show E = 1 by rw [HEE.out]; rfl)
      have HRZ := Lib.hid (show R = sl0 by rw [HRE.out, if_neg (by rw [HEZ.out]; decide)])
      clear LA1
      go_enter Tryd.func13, Tryd.ntmps13
      go_wp2_with (first | ((with_reducible refine (MY.out _ bel).mono ?_); rintro e w2 ⟨rfl, g⟩; (replace q0 := (g.block _ (lt_of_block q0)).trans q0); (replace q1 := (g.block _ (lt_of_block q1)).trans q1); (replace q2 := (g.block _ (lt_of_block q2)).trans q2); (clear d0 d1 d2 d3 d4 d5 df e0 e1 e2 ef z0 z1 z2 z3 z4 z5 zf); (obtain ⟨d0, d1, d2, d3, d4, d5, df⟩ := block_cells6 q0); (obtain ⟨e0, e1, e2, ef⟩ := block_cells3 q1); (obtain ⟨z0, z1, z2, z3, z4, z5, zf⟩ := block_cells6 q2); (replace bel := chain bel g); clear g) | ((with_reducible refine (VO.out _).mono ?_); rintro e w3 ⟨rfl, g⟩; (replace q0 := (g.block _ (lt_of_block q0)).trans q0); (replace q1 := (g.block _ (lt_of_block q1)).trans q1); (replace q2 := (g.block _ (lt_of_block q2)).trans q2); (clear d0 d1 d2 d3 d4 d5 df e0 e1 e2 ef z0 z1 z2 z3 z4 z5 zf); (obtain ⟨d0, d1, d2, d3, d4, d5, df⟩ := block_cells6 q0); (obtain ⟨e0, e1, e2, ef⟩ := block_cells3 q1); (obtain ⟨z0, z1, z2, z3, z4, z5, zf⟩ := block_cells6 q2); (replace bel := chain bel g); clear g))
      have QZ := Lib.hid (set6_new (u0 := .bool false) (u1 := .int .i64 0) (u2 := .int .i64 0) (u3 := .string ⟨#[]⟩) (u4 := .slice none 0 0) (u5 := .slice none 0 0) q2)
      have FB := Lib.hid (below_grownB bel (set6_grown (w := _) (B := w.heap.size + 2) (u0 := .bool false) (u1 := .int .i64 0) (u2 := .int .i64 0) (u3 := .string ⟨#[]⟩) (u4 := .slice none 0 0) (u5 := .slice none 0 0)) bel.size (by omega))
      (try simp only [Exit.inBlock, Exit.then])
      refine bodyPost_ret (results_cell_row_tmp rfl _ _ _ _ _ (0, 0) _ rfl QZ.out Tryd.underlying24 rfl slot_size) rfl ?_
      show Z (.returned _) _
      rw [HZ.out, HRZ.out]
      exact ⟨none, 0, 0, none, 0, 0, by rw [HEZ.out]; rfl, rds0 _, FB.out⟩
    | true =>
      have LA := Lib.hid (LA1 rfl)
      have HEZ := Lib.hid (show E = X by rw [HEE.out]; rfl)
      clear LA1
      by_cases h0 : X = 0
      · subst h0
        have HRZ := Lib.hid (show R = ⟨has, vw, tm, body, ps, layL cs ⟨a, b, c⟩⟩ by rw [HRE.out, if_pos HEZ.out])
        rw [if_pos rfl] at LA
        go_enter Tryd.func13, Tryd.ntmps13
        go_wp2_with (first | ((with_reducible refine (MY.out _ bel).mono ?_); rintro e w2 ⟨rfl, g⟩; (replace q0 := (g.block _ (lt_of_block q0)).trans q0); (replace q1 := (g.block _ (lt_of_block q1)).trans q1); (replace q2 := (g.block _ (lt_of_block q2)).trans q2); (clear d0 d1 d2 d3 d4 d5 df e0 e1 e2 ef z0 z1 z2 z3 z4 z5 zf); (obtain ⟨d0, d1, d2, d3, d4, d5, df⟩ := block_cells6 q0); (obtain ⟨e0, e1, e2, ef⟩ := block_cells3 q1); (obtain ⟨z0, z1, z2, z3, z4, z5, zf⟩ := block_cells6 q2); (replace bel := chain bel g); clear g) | ((with_reducible refine (VO.out _).mono ?_); rintro e w3 ⟨rfl, g⟩; (replace q0 := (g.block _ (lt_of_block q0)).trans q0); (replace q1 := (g.block _ (lt_of_block q1)).trans q1); (replace q2 := (g.block _ (lt_of_block q2)).trans q2); (clear d0 d1 d2 d3 d4 d5 df e0 e1 e2 ef z0 z1 z2 z3 z4 z5 zf); (obtain ⟨d0, d1, d2, d3, d4, d5, df⟩ := block_cells6 q0); (obtain ⟨e0, e1, e2, ef⟩ := block_cells3 q1); (obtain ⟨z0, z1, z2, z3, z4, z5, zf⟩ := block_cells6 q2); (replace bel := chain bel g); clear g) | ((with_reducible refine (LA.out _ bel).mono ?_); rintro e w4 ⟨p9, n9, c9, rfl, HLr, g⟩; (have HL := Lib.hid HLr); clear HLr; (replace q0 := (g.block _ (lt_of_block q0)).trans q0); (replace q1 := (g.block _ (lt_of_block q1)).trans q1); (replace q2 := (g.block _ (lt_of_block q2)).trans q2); (clear d0 d1 d2 d3 d4 d5 df e0 e1 e2 ef z0 z1 z2 z3 z4 z5 zf); (obtain ⟨d0, d1, d2, d3, d4, d5, df⟩ := block_cells6 q0); (obtain ⟨e0, e1, e2, ef⟩ := block_cells3 q1); (obtain ⟨z0, z1, z2, z3, z4, z5, zf⟩ := block_cells6 q2); (replace bel := chain bel g); clear g))
        have G5 : w4.grownBy (w4.setCell ⟨w.heap.size, 5, none⟩ (.slice p9 n9 c9)) (some w.heap.size) := grown_setB grown_reflB
        have q2' : (w4.setCell ⟨w.heap.size, 5, none⟩ (.slice p9 n9 c9)).heap[w.heap.size + 2]? = _ := (set_old (by omega)).trans q2
        have QZ := Lib.hid (set6_new (u0 := .bool has) (u1 := .int .i64 vw) (u2 := .int .i64 tm) (u3 := .string S) (u4 := .slice pa pn pc) (u5 := .slice p9 n9 c9) q2')
        have G6 := set6_grown (w := w4.setCell ⟨w.heap.size, 5, none⟩ (.slice p9 n9 c9)) (B := w.heap.size + 2) (u0 := .bool has) (u1 := .int .i64 vw) (u2 := .int .i64 tm) (u3 := .string S) (u4 := .slice pa pn pc) (u5 := .slice p9 n9 c9)
        have BW5 := below_grownB bel G5 bel.size (Nat.le_refl _)
        have BW6 := below_grownB BW5 G6 BW5.size (by omega)
        have L6 := rdt_six (one_slice _ _ _) (one_slice _ _ _) q2' G6 (rdt_six (one_slice _ _ _) (one_slice _ _ _) q0 G5 HL.out)
        have O6 := rdt_six (one_slice _ _ _) (one_slice _ _ _) q2' G6 (rdt_six (one_slice _ _ _) (one_slice _ _ _) q0 G5 (RP.out _ bel))
        (try simp only [Exit.inBlock, Exit.then])
        refine bodyPost_ret (results_cell_row_tmp rfl _ _ _ _ _ (0, 0) _ rfl QZ.out Tryd.underlying24 rfl slot_size) rfl ?_
        show Z (.returned _) _
        rw [HZ.out, HRZ.out]
        exact ⟨pa, pn, pc, p9, n9, c9, by rw [HEZ.out, HS.out]; rfl, ⟨O6, L6, HBL.out⟩, BW6⟩
      · have HRZ := Lib.hid (show R = sl0 by rw [HRE.out, if_neg (by rw [HEZ.out]; exact h0)])
        have f1 : ((X : Int) == 0) = false := by simpa using h0
        go_enter Tryd.func13, Tryd.ntmps13
        go_wp2_with (first | ((with_reducible refine (MY.out _ bel).mono ?_); rintro e w2 ⟨rfl, g⟩; (replace q0 := (g.block _ (lt_of_block q0)).trans q0); (replace q1 := (g.block _ (lt_of_block q1)).trans q1); (replace q2 := (g.block _ (lt_of_block q2)).trans q2); (clear d0 d1 d2 d3 d4 d5 df e0 e1 e2 ef z0 z1 z2 z3 z4 z5 zf); (obtain ⟨d0, d1, d2, d3, d4, d5, df⟩ := block_cells6 q0); (obtain ⟨e0, e1, e2, ef⟩ := block_cells3 q1); (obtain ⟨z0, z1, z2, z3, z4, z5, zf⟩ := block_cells6 q2); (replace bel := chain bel g); clear g) | ((with_reducible refine (VO.out _).mono ?_); rintro e w3 ⟨rfl, g⟩; (replace q0 := (g.block _ (lt_of_block q0)).trans q0); (replace q1 := (g.block _ (lt_of_block q1)).trans q1); (replace q2 := (g.block _ (lt_of_block q2)).trans q2); (clear d0 d1 d2 d3 d4 d5 df e0 e1 e2 ef z0 z1 z2 z3 z4 z5 zf); (obtain ⟨d0, d1, d2, d3, d4, d5, df⟩ := block_cells6 q0); (obtain ⟨e0, e1, e2, ef⟩ := block_cells3 q1); (obtain ⟨z0, z1, z2, z3, z4, z5, zf⟩ := block_cells6 q2); (replace bel := chain bel g); clear g) | ((with_reducible refine (LA.out _ bel).mono ?_); rintro e w4 ⟨p9, n9, c9, rfl, HLr, g⟩; (have HL := Lib.hid HLr); clear HLr; (replace q0 := (g.block _ (lt_of_block q0)).trans q0); (replace q1 := (g.block _ (lt_of_block q1)).trans q1); (replace q2 := (g.block _ (lt_of_block q2)).trans q2); (clear d0 d1 d2 d3 d4 d5 df e0 e1 e2 ef z0 z1 z2 z3 z4 z5 zf); (obtain ⟨d0, d1, d2, d3, d4, d5, df⟩ := block_cells6 q0); (obtain ⟨e0, e1, e2, ef⟩ := block_cells3 q1); (obtain ⟨z0, z1, z2, z3, z4, z5, zf⟩ := block_cells6 q2); (replace bel := chain bel g); clear g))
        have QZ := Lib.hid (set6_new (u0 := .bool false) (u1 := .int .i64 0) (u2 := .int .i64 0) (u3 := .string ⟨#[]⟩) (u4 := .slice none 0 0) (u5 := .slice none 0 0) q2)
        have FB := Lib.hid (below_grownB bel (set6_grown (w := _) (B := w.heap.size + 2) (u0 := .bool false) (u1 := .int .i64 0) (u2 := .int .i64 0) (u3 := .string ⟨#[]⟩) (u4 := .slice none 0 0) (u5 := .slice none 0 0)) bel.size (by omega))
        (try simp only [Exit.inBlock, Exit.then])
        refine bodyPost_ret (results_cell_row_tmp rfl _ _ _ _ _ (0, 0) _ rfl QZ.out Tryd.underlying24 rfl slot_size) rfl ?_
        show Z (.returned _) _
        rw [HZ.out, HRZ.out]
        exact ⟨none, 0, 0, none, 0, 0, by rw [HEZ.out]; rfl, rds0 _, FB.out⟩
end Go.Proofs.YtgmblgpfgdfnaaaDoor
