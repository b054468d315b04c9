/- Slots: a vote is cast, in preparing. Written by wip/tools/gen29i.py. -/
import Derived.Test.YtgmblgpfgdfnaaaDoorQSPC19
namespace Go.Proofs.YtgmblgpfgdfnaaaDoor
open Go Go.RowKit
set_option linter.unusedVariables false
set_option linter.unusedSimpArgs false
set_option maxRecDepth 100000
set_option maxHeartbeats 2000000 in
theorem cast_prep (s : Sl) (vP vC : Value) (v : Vt) (B : Nat) (w : World) (hB : w.heap[B]? = some (.cells #[.bool s.has, .int .i64 s.vw, .int .i64 s.tm, .string (str s.body), vP, vC] 24 (0, 0))) (h : RdS w s vP vC) :
    Calls Tryd.prog 27 #[.pointer (some ⟨B, 0, none⟩), .pointer (some ⟨B, 4, none⟩), vtV v] w (GivesSl w (some B) (prepR s v) (castE s s.ps v)) := by
  have MY0 := fun w' (g : Below w.heap.size w w') => slMay_any s vP vC w' (h.below g (Nat.le_refl _))
  have IV0 := fun w' => isVote_any v w'
  have CO0 := fun (hm : mayS s = true) w' (g : Below w.heap.size w w') => copied_any s vP vC w' (h.below g (Nat.le_refl _)) (by have := are_len (mayS_are hm).1; omega) (by have := are_len (mayS_are hm).2.1; omega)
  have SE0 := fun (hm : mayS s = true) w' (g : Below w.heap.size w w') => search_any vP s.ps v.fr w' (h.p.below g (Nat.le_refl _)) (are_len (mayS_are hm).1) (are_sort (mayS_are hm).1)
  obtain ⟨has, vw, tm, body, ps, cs⟩ := s
  obtain ⟨a, b, c⟩ := v
  unfold sV at MY0 CO0
  unfold vtV at IV0 ⊢
  simp only at MY0 IV0 CO0 SE0 hB ⊢
  obtain ⟨S, hS⟩ : ∃ S, S = str body := ⟨_, rfl⟩
  rw [← hS] at MY0 CO0 hB
  obtain ⟨Z, hZ⟩ : ∃ Z, Z = GivesSl w (some B) (prepR ⟨has, vw, tm, body, ps, cs⟩ ⟨a, b, c⟩) (castE ⟨has, vw, tm, body, ps, cs⟩ ps ⟨a, b, c⟩) := ⟨_, rfl⟩
  rw [← hZ]
  have HZ := Lib.hid hZ
  have HS := Lib.hid hS
  have HBL := Lib.hid h.b
  have hBlt := lt_of_block hB
  have BL : Below w.heap.size w ((w.alloc (.cells #[.int .i64 a, .int .i64 b, .int .i64 c] 26)).alloc (.cells #[.bool false, .int .i64 0, .int .i64 0, .string ⟨#[]⟩, .slice none 0 0, .slice none 0 0] 24)) := ((Below.refl _ _).alloc (Nat.le_refl _) _).alloc (by simp) _
  have qV : ((w.alloc (.cells #[.int .i64 a, .int .i64 b, .int .i64 c] 26)).alloc (.cells #[.bool false, .int .i64 0, .int .i64 0, .string ⟨#[]⟩, .slice none 0 0, .slice none 0 0] 24)).heap[w.heap.size]? = some (.cells #[.int .i64 a, .int .i64 b, .int .i64 c] 26 (0, 0)) := (two_allocs w _ _).1
  have qZ : ((w.alloc (.cells #[.int .i64 a, .int .i64 b, .int .i64 c] 26)).alloc (.cells #[.bool false, .int .i64 0, .int .i64 0, .string ⟨#[]⟩, .slice none 0 0, .slice none 0 0] 24)).heap[w.heap.size + 1]? = some (.cells #[.bool false, .int .i64 0, .int .i64 0, .string ⟨#[]⟩, .slice none 0 0, .slice none 0 0] 24 (0, 0)) := (two_allocs w _ _).2.1
  have qB : ((w.alloc (.cells #[.int .i64 a, .int .i64 b, .int .i64 c] 26)).alloc (.cells #[.bool false, .int .i64 0, .int .i64 0, .string ⟨#[]⟩, .slice none 0 0, .slice none 0 0] 24)).heap[B]? = some (.cells #[.bool has, .int .i64 vw, .int .i64 tm, .string S, vP, vC] 24 (0, 0)) := (BL.block _ hBlt).trans hB
  obtain ⟨d0, d1, d2, d3, d4, d5, df⟩ := block_cells6 qB
  obtain ⟨e0, e1, e2, ef⟩ := block_cells3 qV
  obtain ⟨z0, z1, z2, z3, z4, z5, zf⟩ := block_cells6 qZ
  cases hm : mayS ⟨has, vw, tm, body, ps, cs⟩ with
  | false =>
    rw [hm] at MY0
    have MY := Lib.hid MY0
    have IV := Lib.hid IV0
    have HM := Lib.hid hm
    have HV := Lib.hid (show True from trivial)
    clear MY0 IV0 CO0 SE0 hS hZ hm h hB
    have HC := Lib.hid (show castE ⟨has, vw, tm, body, ps, cs⟩ ps ⟨a, b, c⟩ = 1 by unfold castE; rw [HM.out]; rfl)
    go_enter Tryd.func27, Tryd.ntmps27
    go_wp2_with (first | ((with_reducible refine (MY.out _ BL).mono ?_); rintro e w1 ⟨rfl, g⟩; (clear d0 d1 d2 d3 d4 d5 df e0 e1 e2 ef z0 z1 z2 z3 z4 z5 zf); (replace qB := (g.block _ (lt_of_block qB)).trans qB); (replace qV := (g.block _ (lt_of_block qV)).trans qV); (replace qZ := (g.block _ (lt_of_block qZ)).trans qZ); (replace BL := chain BL g); (obtain ⟨d0, d1, d2, d3, d4, d5, df⟩ := block_cells6 qB); (obtain ⟨e0, e1, e2, ef⟩ := block_cells3 qV); (obtain ⟨z0, z1, z2, z3, z4, z5, zf⟩ := block_cells6 qZ); clear g) | ((with_reducible refine (IV.out _).mono ?_); rintro e w2 ⟨rfl, g⟩; (clear d0 d1 d2 d3 d4 d5 df e0 e1 e2 ef z0 z1 z2 z3 z4 z5 zf); (replace qB := (g.block _ (lt_of_block qB)).trans qB); (replace qV := (g.block _ (lt_of_block qV)).trans qV); (replace qZ := (g.block _ (lt_of_block qZ)).trans qZ); (replace BL := chain BL g); (obtain ⟨d0, d1, d2, d3, d4, d5, df⟩ := block_cells6 qB); (obtain ⟨e0, e1, e2, ef⟩ := block_cells3 qV); (obtain ⟨z0, z1, z2, z3, z4, z5, zf⟩ := block_cells6 qZ); clear g))
    have QZ := Lib.hid (set6_new (u0 := .bool false) (u1 := .int .i64 0) (u2 := .int .i64 0) (u3 := .string ⟨#[]⟩) (u4 := .slice none 0 0) (u5 := .slice none 0 0) qZ)
    have FB := Lib.hid (below_grownB BL (set6_grown (w := _) (B := w.heap.size + 1) (u0 := .bool false) (u1 := .int .i64 0) (u2 := .int .i64 0) (u3 := .string ⟨#[]⟩) (u4 := .slice none 0 0) (u5 := .slice none 0 0)) BL.size (by omega))
    (try simp only [Exit.inBlock, Exit.then])
    refine bodyPost_ret (results_cell_row_tmp rfl _ _ _ _ _ (0, 0) _ rfl QZ.out Tryd.underlying24 rfl slot_size) rfl ?_
    show Z (.returned _) _
    rw [HZ.out]
    exact gives_zero (by unfold prepR; rw [if_neg (by rw [HC.out]; decide)]) HC.out rfl (grown_none FB.out)
  | true =>
    have CO := Lib.hid (CO0 hm)
    have SE1 := SE0 hm
    have HSO := Lib.hid (are_sort (mayS_are hm).1)
    have HLN := Lib.hid (are_len (mayS_are hm).1)
    simp only at HSO HLN
    rw [hm] at MY0
    have MY := Lib.hid MY0
    have HM := Lib.hid hm
    cases hv : voteB ⟨a, b, c⟩ with
    | false =>
      rw [hv] at IV0
      have IV := Lib.hid IV0
      have HV := Lib.hid hv
      clear MY0 IV0 CO0 SE0 SE1 hS hZ hm hv h hB CO HSO HLN
      have HC := Lib.hid (show castE ⟨has, vw, tm, body, ps, cs⟩ ps ⟨a, b, c⟩ = 1 by unfold castE; rw [HM.out, HV.out]; rfl)
      go_enter Tryd.func27, Tryd.ntmps27
      go_wp2_with (first | ((with_reducible refine (MY.out _ BL).mono ?_); rintro e w1 ⟨rfl, g⟩; (clear d0 d1 d2 d3 d4 d5 df e0 e1 e2 ef z0 z1 z2 z3 z4 z5 zf); (replace qB := (g.block _ (lt_of_block qB)).trans qB); (replace qV := (g.block _ (lt_of_block qV)).trans qV); (replace qZ := (g.block _ (lt_of_block qZ)).trans qZ); (replace BL := chain BL g); (obtain ⟨d0, d1, d2, d3, d4, d5, df⟩ := block_cells6 qB); (obtain ⟨e0, e1, e2, ef⟩ := block_cells3 qV); (obtain ⟨z0, z1, z2, z3, z4, z5, zf⟩ := block_cells6 qZ); clear g) | ((with_reducible refine (IV.out _).mono ?_); rintro e w2 ⟨rfl, g⟩; (clear d0 d1 d2 d3 d4 d5 df e0 e1 e2 ef z0 z1 z2 z3 z4 z5 zf); (replace qB := (g.block _ (lt_of_block qB)).trans qB); (replace qV := (g.block _ (lt_of_block qV)).trans qV); (replace qZ := (g.block _ (lt_of_block qZ)).trans qZ); (replace BL := chain BL g); (obtain ⟨d0, d1, d2, d3, d4, d5, df⟩ := block_cells6 qB); (obtain ⟨e0, e1, e2, ef⟩ := block_cells3 qV); (obtain ⟨z0, z1, z2, z3, z4, z5, zf⟩ := block_cells6 qZ); clear g))
      have QZ := Lib.hid (set6_new (u0 := .bool false) (u1 := .int .i64 0) (u2 := .int .i64 0) (u3 := .string ⟨#[]⟩) (u4 := .slice none 0 0) (u5 := .slice none 0 0) qZ)
      have FB := Lib.hid (below_grownB BL (set6_grown (w := _) (B := w.heap.size + 1) (u0 := .bool false) (u1 := .int .i64 0) (u2 := .int .i64 0) (u3 := .string ⟨#[]⟩) (u4 := .slice none 0 0) (u5 := .slice none 0 0)) BL.size (by omega))
      (try simp only [Exit.inBlock, Exit.then])
      refine bodyPost_ret (results_cell_row_tmp rfl _ _ _ _ _ (0, 0) _ rfl QZ.out Tryd.underlying24 rfl slot_size) rfl ?_
      show Z (.returned _) _
      rw [HZ.out]
      exact gives_zero (by unfold prepR; rw [if_neg (by rw [HC.out]; decide)]) HC.out rfl (grown_none FB.out)
    | true =>
      rw [hv] at IV0
      have IV := Lib.hid IV0
      have HV := Lib.hid hv
      have HCE := Lib.hid (show castE ⟨has, vw, tm, body, ps, cs⟩ ps ⟨a, b, c⟩ = layE ps ⟨a, b, c⟩ by unfold castE; rw [hm, hv]; rfl)
      obtain ⟨p, hp⟩ : ∃ p, p = posV ps a := ⟨_, rfl⟩
      have HP := Lib.hid hp
      have hpl : p ≤ ps.length := by rw [hp]; exact posV_le _ _
      rw [← hp] at SE1
      cases hf : foundV ps a with
      | false =>
        rw [hf] at SE1
        have SE := Lib.hid SE1
        have HF := Lib.hid hf
        clear MY0 IV0 CO0 SE0 SE1 hS hZ hm hv h hB hp hf
        go_enter Tryd.func27, Tryd.ntmps27
        go_wp2_with (first | ((with_reducible refine (MY.out _ BL).mono ?_); rintro e w1 ⟨rfl, g⟩; (clear d0 d1 d2 d3 d4 d5 df e0 e1 e2 ef z0 z1 z2 z3 z4 z5 zf); (replace qB := (g.block _ (lt_of_block qB)).trans qB); (replace qV := (g.block _ (lt_of_block qV)).trans qV); (replace qZ := (g.block _ (lt_of_block qZ)).trans qZ); (replace BL := chain BL g); (obtain ⟨d0, d1, d2, d3, d4, d5, df⟩ := block_cells6 qB); (obtain ⟨e0, e1, e2, ef⟩ := block_cells3 qV); (obtain ⟨z0, z1, z2, z3, z4, z5, zf⟩ := block_cells6 qZ); clear g) | ((with_reducible refine (IV.out _).mono ?_); rintro e w2 ⟨rfl, g⟩; (clear d0 d1 d2 d3 d4 d5 df e0 e1 e2 ef z0 z1 z2 z3 z4 z5 zf); (replace qB := (g.block _ (lt_of_block qB)).trans qB); (replace qV := (g.block _ (lt_of_block qV)).trans qV); (replace qZ := (g.block _ (lt_of_block qZ)).trans qZ); (replace BL := chain BL g); (obtain ⟨d0, d1, d2, d3, d4, d5, df⟩ := block_cells6 qB); (obtain ⟨e0, e1, e2, ef⟩ := block_cells3 qV); (obtain ⟨z0, z1, z2, z3, z4, z5, zf⟩ := block_cells6 qZ); clear g))
        clear d0 d1 d2 d3 d4 d5 df e0 e1 e2 ef z0 z1 z2 z3 z4 z5 zf
        replace qB : (World.drew _).heap[_]? = _ := qB
        replace qV : (World.drew _).heap[_]? = _ := qV
        replace qZ : (World.drew _).heap[_]? = _ := qZ
        replace BL := BL.drew
        refine g_start (by kernel_rfl) ?_
        refine g_take (i := 0) (d := (some 23)) (v := ?_) rfl rfl (by kernel_rfl) (fun _ _ _ h => h) (by rfl) (fun w' hb' => ?_) ?_
        rotate_left
        · (try go_simp); (try with_reducible rfl)
        try simp only [Act.put, List.setIfInBounds_toArray, List.set_cons_zero, List.set_cons_succ]
        refine g_take (i := 1) (d := (some 24)) (v := ?_) rfl rfl (by kernel_rfl) (fun _ _ _ h => h) (by rfl) (fun w' hb' => ?_) ?_
        rotate_left
        · (try go_simp); (try with_reducible rfl)
        try simp only [Act.put, List.setIfInBounds_toArray, List.set_cons_zero, List.set_cons_succ]
        refine g_take (i := 2) (d := (some 25)) (v := ?_) rfl rfl (by kernel_rfl) (fun _ _ _ h => h) (by rfl) (fun w' hb' => ?_) ?_
        rotate_left
        · obtain ⟨d0, d1, d2, d3, d4, d5, df⟩ := block_cells6 ((hb'.block _ (lt_of_block qB)).trans qB); (try go_simp); (try with_reducible rfl)
        try simp only [Act.put, List.setIfInBounds_toArray, List.set_cons_zero, List.set_cons_succ]
        refine g_take (i := 3) (d := (some 26)) (v := ?_) rfl rfl (by kernel_rfl) (fun _ _ _ h => h) (by rfl) (fun w' hb' => ?_) ?_
        rotate_left
        · (try go_simp); (try with_reducible rfl)
        try simp only [Act.put, List.setIfInBounds_toArray, List.set_cons_zero, List.set_cons_succ]
        refine g_take (i := 4) (d := (some 27)) (v := ?_) rfl rfl (by kernel_rfl) (fun _ _ _ h => h) (by rfl) (fun w' hb' => ?_) ?_
        rotate_left
        · obtain ⟨e0, e1, e2, ef⟩ := block_cells3 ((hb'.block _ (lt_of_block qV)).trans qV); (try go_simp); (try with_reducible rfl)
        try simp only [Act.put, List.setIfInBounds_toArray, List.set_cons_zero, List.set_cons_succ]
        refine g_run (i := 5) rfl (by kernel_rfl) (by rfl) (fun K hK => ?_)
        go_simp; refine (SE.out _ BL).mono ?_; rintro e w3 ⟨rfl, g⟩; have qB3 := (g.block _ (lt_of_block qB)).trans qB; have qV3 := (g.block _ (lt_of_block qV)).trans qV; have qZ3 := (g.block _ (lt_of_block qZ)).trans qZ; have BL3 := chain BL g; refine hK _ _ ⟨g, ?_⟩; clear hK K g
        try simp only [Act.put, List.setIfInBounds_toArray, List.set_cons_zero, List.set_cons_succ]
        refine g_take (i := 6) (d := (some 22)) (v := ?_) rfl rfl (by kernel_rfl) (fun _ _ _ h => h) (by rfl) (fun w' hb' => ?_) ?_
        rotate_left
        · (try go_simp); (try with_reducible rfl)
        try simp only [Act.put, List.setIfInBounds_toArray, List.set_cons_zero, List.set_cons_succ]
        refine g_take (i := 7) (d := (some 29)) (v := ?_) rfl rfl (by kernel_rfl) (fun _ _ _ h => h) (by rfl) (fun w' hb' => ?_) ?_
        rotate_left
        · (try go_simp); (try with_reducible rfl)
        try simp only [Act.put, List.setIfInBounds_toArray, List.set_cons_zero, List.set_cons_succ]
        refine g_take (i := 8) (d := (some 30)) (v := ?_) rfl rfl (by kernel_rfl) (fun _ _ _ h => h) (by rfl) (fun w' hb' => ?_) ?_
        rotate_left
        · (try go_simp); (try with_reducible rfl)
        try simp only [Act.put, List.setIfInBounds_toArray, List.set_cons_zero, List.set_cons_succ]
        refine g_take (i := 9) (d := (some 8)) (v := ?_) rfl rfl (by kernel_rfl) (fun _ _ _ h => h) (by rfl) (fun w' hb' => ?_) ?_
        rotate_left
        · (try go_simp); (try with_reducible rfl)
        try simp only [Act.put, List.setIfInBounds_toArray, List.set_cons_zero, List.set_cons_succ]
        refine g_take (i := 10) (d := (some 9)) (v := ?_) rfl rfl (by kernel_rfl) (fun _ _ _ h => h) (by rfl) (fun w' hb' => ?_) ?_
        rotate_left
        · (try go_simp); (try with_reducible rfl)
        try simp only [Act.put, List.setIfInBounds_toArray, List.set_cons_zero, List.set_cons_succ]
        refine g_done (by kernel_rfl) ?_
        obtain ⟨d0, d1, d2, d3, d4, d5, df⟩ := block_cells6 qB3
        obtain ⟨e0, e1, e2, ef⟩ := block_cells3 qV3
        clear qB qV qZ BL
        go_wp2_with ((with_reducible refine (CO.out _ BL3).mono ?_); rintro e w4 ⟨v2, v3, rfl, TW, g⟩; (obtain ⟨a2, n2, k2, rfl⟩ := own_val TW.p); (obtain ⟨a3, n3, k3, rfl⟩ := own_val TW.c); (have qB4 := (g.block _ (lt_of_block qB3)).trans qB3); (have qV4 := (g.block _ (lt_of_block qV3)).trans qV3); (have qZ4 := (g.block _ (lt_of_block qZ3)).trans qZ3); (have hbs := lt_of_block qZ3); (have BL4 := chain BL3 g); (clear d0 d1 d2 d3 d4 d5 df e0 e1 e2 ef); (obtain ⟨d0, d1, d2, d3, d4, d5, df⟩ := block_cells6 qB4); clear g)
        obtain ⟨W5, hW5⟩ : ∃ W5, W5 = ((((((w4.setCell ⟨B, 0, none⟩ (.bool has)).setCell ⟨B, 1, none⟩ (.int .i64 vw)).setCell ⟨B, 2, none⟩ (.int .i64 tm)).setCell ⟨B, 3, none⟩ (.string S)).setCell ⟨B, 4, none⟩ (.slice a2 n2 k2)).setCell ⟨B, 5, none⟩ (.slice a3 n3 k3)) := ⟨_, rfl⟩
        rw [← hW5]
        have qB5 : W5.heap[B]? = some (.cells #[.bool has, .int .i64 vw, .int .i64 tm, .string S, .slice a2 n2 k2, .slice a3 n3 k3] 24 (0, 0)) := by rw [hW5]; exact set6_new qB4
        have qV5 : W5.heap[w.heap.size]? = some (.cells #[.int .i64 a, .int .i64 b, .int .i64 c] 26 (0, 0)) := by rw [hW5]; exact (set6_old (by omega)).trans qV4
        have qZ5 : W5.heap[w.heap.size + 1]? = some (.cells #[.bool false, .int .i64 0, .int .i64 0, .string ⟨#[]⟩, .slice none 0 0, .slice none 0 0] 24 (0, 0)) := by rw [hW5]; exact (set6_old (by omega)).trans qZ4
        have TW5 : Two W5 (w.heap.size + 2) (Value.slice a2 n2 k2) (Value.slice a3 n3 k3) ps cs := by rw [hW5]; exact (TW.base (by omega)).kept (set6_grown (w := w4) (B := B) (u0 := .bool has) (u1 := .int .i64 vw) (u2 := .int .i64 tm) (u3 := .string S) (u4 := .slice a2 n2 k2) (u5 := .slice a3 n3 k3)) (by omega)
        have G5 : w.grownBy W5 (some B) := by rw [hW5]; exact grown_transB (grown_none BL4) (set6_grown (w := w4) (B := B) (u0 := .bool has) (u1 := .int .i64 vw) (u2 := .int .i64 tm) (u3 := .string S) (u4 := .slice a2 n2 k2) (u5 := .slice a3 n3 k3))
        have hs5 : w.heap.size + 2 ≤ W5.heap.size := by have := lt_of_block qZ5; omega
        clear hW5 TW qB4 qV4 qZ4 qB3 qV3 qZ3 BL4 BL3 hbs d0 d1 d2 d3 d4 d5 df
        refine v_start 9 ((fun w' => W5.drew.grownBy w' (Value.slice a2 n2 k2).ownBlock)) (by kernel_rfl) ?_
        refine v_take (i := 0) (d := (some 39)) (v := ?_) rfl rfl (by kernel_rfl) (fun _ _ _ h => h) (by rfl) (by first | exact grown_reflB | exact SG6 | exact SG7) (fun w' hb' => ?_) ?_
        rotate_left
        · (try go_simp); (try with_reducible rfl)
        try simp only [Act.put, List.setIfInBounds_toArray, List.set_cons_zero, List.set_cons_succ]
        refine v_take (i := 1) (d := (some 40)) (v := ?_) rfl rfl (by kernel_rfl) (fun _ _ _ h => h) (by rfl) (by first | exact grown_reflB | exact SG6 | exact SG7) (fun w' hb' => ?_) ?_
        rotate_left
        · (try go_simp); (try with_reducible rfl)
        try simp only [Act.put, List.setIfInBounds_toArray, List.set_cons_zero, List.set_cons_succ]
        refine v_take (i := 2) (d := (some 41)) (v := ?_) rfl rfl (by kernel_rfl) (fun _ _ _ h => h) (by rfl) (by first | exact grown_reflB | exact SG6 | exact SG7) (fun w' hb' => ?_) ?_
        rotate_left
        · (try go_simp); (try with_reducible rfl)
        try simp only [Act.put, List.setIfInBounds_toArray, List.set_cons_zero, List.set_cons_succ]
        refine v_take (i := 3) (d := (some 42)) (v := ?_) rfl rfl (by kernel_rfl) (fun _ _ _ h => h) (by rfl) (by first | exact grown_reflB | exact SG6 | exact SG7) (fun w' hb' => ?_) ?_
        rotate_left
        · obtain ⟨d0, d1, d2, d3, d4, d5, df⟩ := block_cells6 ((grown_off hb' (k := B) (by omega) (own_past TW5.p) (lt_of_block qB5)).trans qB5); (try go_simp); (try with_reducible rfl)
        try simp only [Act.put, List.setIfInBounds_toArray, List.set_cons_zero, List.set_cons_succ]
        refine v_take (i := 4) (d := (some 43)) (v := ?_) rfl rfl (by kernel_rfl) (fun _ _ _ h => h) (by rfl) (by first | exact grown_reflB | exact SG6 | exact SG7) (fun w' hb' => ?_) ?_
        rotate_left
        · (try go_simp); (try with_reducible rfl)
        try simp only [Act.put, List.setIfInBounds_toArray, List.set_cons_zero, List.set_cons_succ]
        refine v_take (i := 5) (d := (some 44)) (v := ?_) rfl rfl (by kernel_rfl) (fun _ _ _ h => h) (by rfl) (by first | exact grown_reflB | exact SG6 | exact SG7) (fun w' hb' => ?_) ?_
        rotate_left
        · obtain ⟨e0, e1, e2, ef⟩ := block_cells3 ((grown_off hb' (k := w.heap.size) (by omega) (own_past TW5.p) (lt_of_block qV5)).trans qV5); (try go_simp); (try with_reducible rfl)
        try simp only [Act.put, List.setIfInBounds_toArray, List.set_cons_zero, List.set_cons_succ]
        refine v_run (i := 6) rfl (by kernel_rfl) (by kernel_rfl) (by rfl) (fun K hK => ?_)
        have SG6 : W5.drew.grownBy (W5.alloc (.cells #[.int .i64 a, .int .i64 b, .int .i64 c] 26)).drew (Value.slice a2 n2 k2).ownBlock := grown_drew2 (grown_none ((Below.refl W5.heap.size W5).alloc (Nat.le_refl _) (.cells #[.int .i64 a, .int .i64 b, .int .i64 c] 26)))
        go_simp; refine hK _ _ ⟨SG6, ?_⟩; clear hK K
        have qB6 : ((W5.alloc (.cells #[.int .i64 a, .int .i64 b, .int .i64 c] 26)).drew).heap[B]? = some (.cells #[.bool has, .int .i64 vw, .int .i64 tm, .string S, .slice a2 n2 k2, .slice a3 n3 k3] 24 (0, 0)) := (heap_alloc_old W5 _ (lt_of_block qB5)).trans qB5
        have qX6 : ((W5.alloc (.cells #[.int .i64 a, .int .i64 b, .int .i64 c] 26)).drew).heap[W5.heap.size]? = some (.cells #[.int .i64 a, .int .i64 b, .int .i64 c] 26 (0, 0)) := heap_alloc_new W5 _
        have qZ6 : ((W5.alloc (.cells #[.int .i64 a, .int .i64 b, .int .i64 c] 26)).drew).heap[w.heap.size + 1]? = some (.cells #[.bool false, .int .i64 0, .int .i64 0, .string ⟨#[]⟩, .slice none 0 0, .slice none 0 0] 24 (0, 0)) := (heap_alloc_old W5 _ (lt_of_block qZ5)).trans qZ5
        have G6 : w.grownBy ((W5.alloc (.cells #[.int .i64 a, .int .i64 b, .int .i64 c] 26)).drew) (some B) := grown_drewB (grown_more G5 (q := none) (grown_none ((Below.refl _ _).alloc (Nat.le_refl _) _)) (by simp))
        have TW6 : Two ((W5.alloc (.cells #[.int .i64 a, .int .i64 b, .int .i64 c] 26)).drew) (w.heap.size + 2) (Value.slice a2 n2 k2) (Value.slice a3 n3 k3) ps cs := ⟨(TW5.p.alloc _).drew, (TW5.c.alloc _).drew, TW5.apart⟩
        have hs6 : w.heap.size + 2 ≤ ((W5.alloc (.cells #[.int .i64 a, .int .i64 b, .int .i64 c] 26)).drew).heap.size := by show _ ≤ (W5.alloc _).heap.size; rw [World.size_alloc]; omega
        obtain ⟨W6, hW6⟩ : ∃ W6, W6 = (W5.alloc (.cells #[.int .i64 a, .int .i64 b, .int .i64 c] 26)).drew := ⟨_, rfl⟩
        have HNB : (Value.slice a2 n2 k2).ownBlock ≠ some W5.heap.size := fun e => by have := (TW5.p.lt _ e).2; omega
        rw [← hW6] at qB6 qX6 qZ6 G6 TW6 hs6 SG6 ⊢
        have IN := insert_any (w.heap.size + 2) (Value.slice a2 n2 k2) p ps ⟨a, b, c⟩ W6 W5.heap.size TW6.p hs6 HNB qX6 HLN.out hpl
        clear hW6 qV5 qZ5 G5 hs5 qX6 HNB
        try simp only [Act.put, List.setIfInBounds_toArray, List.set_cons_zero, List.set_cons_succ]
        refine v_run (i := 7) rfl (by kernel_rfl) (by kernel_rfl) (by rfl) (fun K hK => ?_)
        go_simp; refine IN.mono ?_; rintro e w7 ⟨v7, rfl, own7, g7⟩; clear IN; obtain ⟨a7, n7, k7, rfl⟩ := own_val own7
        have oth7 : w7.ownsRow (w.heap.size + 2) 26 3 (Value.slice a3 n3 k3) cs.length (cs.flatMap vtC) := TW6.c.kept g7 (by
          cases hq : (Value.slice a3 n3 k3).ownBlock with
          | none => exact .inl rfl
          | some q => exact .inr fun e => TW6.apart q (e.symm) (hq))
        have qB7 := (grown_off g7 (k := B) (by omega) (own_past TW6.p) (lt_of_block qB6)).trans qB6
        have qZ7 := (grown_off g7 (k := w.heap.size + 1) (by omega) (own_past TW6.p) (lt_of_block qZ6)).trans qZ6
        have G7 := grown_more G6 g7 (fun k hk => by have := own_past TW6.p k hk; omega)
        have hs7 := Nat.le_trans hs6 g7.size
        have SG7 := grown_transB SG6 g7
        refine hK _ _ ⟨SG7, ?_⟩; clear hK K g7 TW6 G6 qB6 qZ6 hs6
        try simp only [Act.put, List.setIfInBounds_toArray, List.set_cons_zero, List.set_cons_succ]
        refine v_take (i := 8) (d := (some 47)) (v := ?_) rfl rfl (by kernel_rfl) (fun _ _ _ h => h) (by rfl) (by first | exact grown_reflB | exact SG6 | exact SG7) (fun w' hb' => ?_) ?_
        rotate_left
        · (try go_simp); (try with_reducible rfl)
        try simp only [Act.put, List.setIfInBounds_toArray, List.set_cons_zero, List.set_cons_succ]
        refine v_last (i := 9) rfl (by kernel_rfl) (by kernel_rfl) (by kernel_rfl) (by rfl) (fun K hK => ?_)
        obtain ⟨d0, d1, d2, d3, d4, d5, df⟩ := block_cells6 qB7
        clear qB5 TW5 SG6 SG7
        go_simp; refine hK _ _ ?_; clear hK K d0 d1 d2 d3 d4 d5 df
        have G8 := grown_transB G7 (grown_setB (i := 4) (u := .slice a7 n7 k7) (grown_reflB (w := w7)))
        have qB8 : (w7.setCell ⟨B, 4, none⟩ (.slice a7 n7 k7)).heap[B]? = some (.cells #[.bool has, .int .i64 vw, .int .i64 tm, .string S, .slice a7 n7 k7, .slice a3 n3 k3] 24 (0, 0)) := by simpa using set_at (i := 4) (u := .slice a7 n7 k7) qB7
        have qZ8 : (w7.setCell ⟨B, 4, none⟩ (.slice a7 n7 k7)).heap[w.heap.size + 1]? = some (.cells #[.bool false, .int .i64 0, .int .i64 0, .string ⟨#[]⟩, .slice none 0 0, .slice none 0 0] 24 (0, 0)) := (set_old (by omega)).trans qZ7
        have oX8 := ownsRow_setCell_below own7 (a := ⟨B, 4, none⟩) (by show B < _; omega) (.slice a7 n7 k7)
        have oY8 := ownsRow_setCell_below oth7 (a := ⟨B, 4, none⟩) (by show B < _; omega) (.slice a7 n7 k7)
        have hs8 : w.heap.size + 2 ≤ (w7.setCell ⟨B, 4, none⟩ (.slice a7 n7 k7)).heap.size := by simpa using hs7
        obtain ⟨W8, hW8⟩ : ∃ W8, W8 = w7.setCell ⟨B, 4, none⟩ (.slice a7 n7 k7) := ⟨_, rfl⟩
        rw [← hW8] at G8 qB8 qZ8 oX8 oY8 hs8 ⊢
        have HC := Lib.hid (show castE ⟨has, vw, tm, body, ps, cs⟩ ps ⟨a, b, c⟩ = 0 by rw [HCE.out]; exact layE_no HSO.out HF.out)
        have HLL := Lib.hid (show ps.take p ++ (⟨a, b, c⟩ : Vt) :: ps.drop p = layL ps ⟨a, b, c⟩ by rw [HP.out]; exact (lay_no (v := ⟨a, b, c⟩) HSO.out HF.out).symm)
        rw [HLL.out] at oX8
        clear hW8 own7 oth7 qB7 qZ7 G7 hs7
        obtain ⟨d0, d1, d2, d3, d4, d5, df⟩ := block_cells6 qB8
        obtain ⟨z0, z1, z2, z3, z4, z5, zf⟩ := block_cells6 qZ8
        have QZ := Lib.hid (set6_new (u0 := .bool has) (u1 := .int .i64 vw) (u2 := .int .i64 tm) (u3 := .string S) (u4 := .slice a7 n7 k7) (u5 := .slice a3 n3 k3) qZ8)
        have FG := Lib.hid (grown_more G8 (set6_grown (w := W8) (B := w.heap.size + 1) (u0 := .bool has) (u1 := .int .i64 vw) (u2 := .int .i64 tm) (u3 := .string S) (u4 := .slice a7 n7 k7) (u5 := .slice a3 n3 k3)) (fun k hk => by injection hk with hk; omega))
        have OX := Lib.hid (oX8.kept (set6_grown (w := W8) (B := w.heap.size + 1) (u0 := .bool has) (u1 := .int .i64 vw) (u2 := .int .i64 tm) (u3 := .string S) (u4 := .slice a7 n7 k7) (u5 := .slice a3 n3 k3)) (by
          cases hq : Value.ownBlock _ with
          | none => exact .inl rfl
          | some q => exact .inr fun e => by injection e with e; have := (oX8.lt q hq).1; omega))
        have OY := Lib.hid (oY8.kept (set6_grown (w := W8) (B := w.heap.size + 1) (u0 := .bool has) (u1 := .int .i64 vw) (u2 := .int .i64 tm) (u3 := .string S) (u4 := .slice a7 n7 k7) (u5 := .slice a3 n3 k3)) (by
          cases hq : Value.ownBlock _ with
          | none => exact .inl rfl
          | some q => exact .inr fun e => by injection e with e; have := (oY8.lt q hq).1; omega))
        clear qB8 qZ8 G8 oX8 oY8 hs8
        go_wp2_with fail
        (try simp only [Exit.inBlock, Exit.then])
        refine bodyPost_ret (results_cell_row_tmp rfl _ _ _ _ _ (0, 0) _ rfl QZ.out Tryd.underlying24 rfl slot_size) rfl ?_
        show Z (.returned _) _
        rw [HZ.out]
        have e1 : prepR ⟨has, vw, tm, body, ps, cs⟩ ⟨a, b, c⟩ = ⟨has, vw, tm, body, layL ps ⟨a, b, c⟩, cs⟩ := by unfold prepR; rw [if_pos HC.out]
        rw [e1, HC.out]
        refine ⟨(.slice a7 n7 k7), (.slice a3 n3 k3), by rw [HS.out]; rfl, ⟨own_base OX.out (by omega), own_base OY.out (by omega), HBL.out⟩, FG.out⟩
      | true =>
        rw [hf] at SE1
        have SE := Lib.hid SE1
        have HF := Lib.hid hf
        have hpl2 : p < ps.length := by rw [hp]; exact foundV_lt hf
        obtain ⟨⟨xa, xb, xc⟩, hx⟩ : ∃ x, x = ps[p] := ⟨_, rfl⟩
        have HX := Lib.hid hx
        have HXA := Lib.hid (show xa = a by
          have h1 := foundV_at (l := ps) (p := a) (by rw [← hp]; exact hpl2)
          rw [hf] at h1
          simp only [← hp] at h1
          have h2 := congrArg Vt.fr hx
          simp only at h2
          rw [h2]
          exact of_decide_eq_true h1.symm)
        have HLE := Lib.hid (show layE ps ⟨a, b, c⟩ = if b < xb then 18 else if xb = b then (if xc = c then 16 else 23) else 0 from layE_yes (v := ⟨a, b, c⟩) HSO.out hf (by simp only [← hp]; exact hx))
        clear MY0 IV0 CO0 SE0 SE1 hS hZ hm hv h hB hp hf hx
        go_enter Tryd.func27, Tryd.ntmps27
        go_wp2_with (first | ((with_reducible refine (MY.out _ BL).mono ?_); rintro e w1 ⟨rfl, g⟩; (clear d0 d1 d2 d3 d4 d5 df e0 e1 e2 ef z0 z1 z2 z3 z4 z5 zf); (replace qB := (g.block _ (lt_of_block qB)).trans qB); (replace qV := (g.block _ (lt_of_block qV)).trans qV); (replace qZ := (g.block _ (lt_of_block qZ)).trans qZ); (replace BL := chain BL g); (obtain ⟨d0, d1, d2, d3, d4, d5, df⟩ := block_cells6 qB); (obtain ⟨e0, e1, e2, ef⟩ := block_cells3 qV); (obtain ⟨z0, z1, z2, z3, z4, z5, zf⟩ := block_cells6 qZ); clear g) | ((with_reducible refine (IV.out _).mono ?_); rintro e w2 ⟨rfl, g⟩; (clear d0 d1 d2 d3 d4 d5 df e0 e1 e2 ef z0 z1 z2 z3 z4 z5 zf); (replace qB := (g.block _ (lt_of_block qB)).trans qB); (replace qV := (g.block _ (lt_of_block qV)).trans qV); (replace qZ := (g.block _ (lt_of_block qZ)).trans qZ); (replace BL := chain BL g); (obtain ⟨d0, d1, d2, d3, d4, d5, df⟩ := block_cells6 qB); (obtain ⟨e0, e1, e2, ef⟩ := block_cells3 qV); (obtain ⟨z0, z1, z2, z3, z4, z5, zf⟩ := block_cells6 qZ); clear g))
        clear d0 d1 d2 d3 d4 d5 df e0 e1 e2 ef z0 z1 z2 z3 z4 z5 zf
        replace qB : (World.drew _).heap[_]? = _ := qB
        replace qV : (World.drew _).heap[_]? = _ := qV
        replace qZ : (World.drew _).heap[_]? = _ := qZ
        replace BL := BL.drew
        refine g_start (by kernel_rfl) ?_
        refine g_take (i := 0) (d := (some 23)) (v := ?_) rfl rfl (by kernel_rfl) (fun _ _ _ h => h) (by rfl) (fun w' hb' => ?_) ?_
        rotate_left
        · (try go_simp); (try with_reducible rfl)
        try simp only [Act.put, List.setIfInBounds_toArray, List.set_cons_zero, List.set_cons_succ]
        refine g_take (i := 1) (d := (some 24)) (v := ?_) rfl rfl (by kernel_rfl) (fun _ _ _ h => h) (by rfl) (fun w' hb' => ?_) ?_
        rotate_left
        · (try go_simp); (try with_reducible rfl)
        try simp only [Act.put, List.setIfInBounds_toArray, List.set_cons_zero, List.set_cons_succ]
        refine g_take (i := 2) (d := (some 25)) (v := ?_) rfl rfl (by kernel_rfl) (fun _ _ _ h => h) (by rfl) (fun w' hb' => ?_) ?_
        rotate_left
        · obtain ⟨d0, d1, d2, d3, d4, d5, df⟩ := block_cells6 ((hb'.block _ (lt_of_block qB)).trans qB); (try go_simp); (try with_reducible rfl)
        try simp only [Act.put, List.setIfInBounds_toArray, List.set_cons_zero, List.set_cons_succ]
        refine g_take (i := 3) (d := (some 26)) (v := ?_) rfl rfl (by kernel_rfl) (fun _ _ _ h => h) (by rfl) (fun w' hb' => ?_) ?_
        rotate_left
        · (try go_simp); (try with_reducible rfl)
        try simp only [Act.put, List.setIfInBounds_toArray, List.set_cons_zero, List.set_cons_succ]
        refine g_take (i := 4) (d := (some 27)) (v := ?_) rfl rfl (by kernel_rfl) (fun _ _ _ h => h) (by rfl) (fun w' hb' => ?_) ?_
        rotate_left
        · obtain ⟨e0, e1, e2, ef⟩ := block_cells3 ((hb'.block _ (lt_of_block qV)).trans qV); (try go_simp); (try with_reducible rfl)
        try simp only [Act.put, List.setIfInBounds_toArray, List.set_cons_zero, List.set_cons_succ]
        refine g_run (i := 5) rfl (by kernel_rfl) (by rfl) (fun K hK => ?_)
        go_simp; refine (SE.out _ BL).mono ?_; rintro e w3 ⟨rfl, g⟩; have qB3 := (g.block _ (lt_of_block qB)).trans qB; have qV3 := (g.block _ (lt_of_block qV)).trans qV; have qZ3 := (g.block _ (lt_of_block qZ)).trans qZ; have BL3 := chain BL g; refine hK _ _ ⟨g, ?_⟩; clear hK K g
        try simp only [Act.put, List.setIfInBounds_toArray, List.set_cons_zero, List.set_cons_succ]
        refine g_take (i := 6) (d := (some 22)) (v := ?_) rfl rfl (by kernel_rfl) (fun _ _ _ h => h) (by rfl) (fun w' hb' => ?_) ?_
        rotate_left
        · (try go_simp); (try with_reducible rfl)
        try simp only [Act.put, List.setIfInBounds_toArray, List.set_cons_zero, List.set_cons_succ]
        refine g_take (i := 7) (d := (some 29)) (v := ?_) rfl rfl (by kernel_rfl) (fun _ _ _ h => h) (by rfl) (fun w' hb' => ?_) ?_
        rotate_left
        · (try go_simp); (try with_reducible rfl)
        try simp only [Act.put, List.setIfInBounds_toArray, List.set_cons_zero, List.set_cons_succ]
        refine g_take (i := 8) (d := (some 30)) (v := ?_) rfl rfl (by kernel_rfl) (fun _ _ _ h => h) (by rfl) (fun w' hb' => ?_) ?_
        rotate_left
        · (try go_simp); (try with_reducible rfl)
        try simp only [Act.put, List.setIfInBounds_toArray, List.set_cons_zero, List.set_cons_succ]
        refine g_take (i := 9) (d := (some 8)) (v := ?_) rfl rfl (by kernel_rfl) (fun _ _ _ h => h) (by rfl) (fun w' hb' => ?_) ?_
        rotate_left
        · (try go_simp); (try with_reducible rfl)
        try simp only [Act.put, List.setIfInBounds_toArray, List.set_cons_zero, List.set_cons_succ]
        refine g_take (i := 10) (d := (some 9)) (v := ?_) rfl rfl (by kernel_rfl) (fun _ _ _ h => h) (by rfl) (fun w' hb' => ?_) ?_
        rotate_left
        · (try go_simp); (try with_reducible rfl)
        try simp only [Act.put, List.setIfInBounds_toArray, List.set_cons_zero, List.set_cons_succ]
        refine g_done (by kernel_rfl) ?_
        obtain ⟨d0, d1, d2, d3, d4, d5, df⟩ := block_cells6 qB3
        obtain ⟨e0, e1, e2, ef⟩ := block_cells3 qV3
        clear qB qV qZ BL
        go_wp2_with ((with_reducible refine (CO.out _ BL3).mono ?_); rintro e w4 ⟨v2, v3, rfl, TW, g⟩; (obtain ⟨a2, n2, k2, rfl⟩ := own_val TW.p); (obtain ⟨a3, n3, k3, rfl⟩ := own_val TW.c); (have qB4 := (g.block _ (lt_of_block qB3)).trans qB3); (have qV4 := (g.block _ (lt_of_block qV3)).trans qV3); (have qZ4 := (g.block _ (lt_of_block qZ3)).trans qZ3); (have hbs := lt_of_block qZ3); (have BL4 := chain BL3 g); (clear d0 d1 d2 d3 d4 d5 df e0 e1 e2 ef); (obtain ⟨d0, d1, d2, d3, d4, d5, df⟩ := block_cells6 qB4); clear g)
        obtain ⟨W5, hW5⟩ : ∃ W5, W5 = ((((((w4.setCell ⟨B, 0, none⟩ (.bool has)).setCell ⟨B, 1, none⟩ (.int .i64 vw)).setCell ⟨B, 2, none⟩ (.int .i64 tm)).setCell ⟨B, 3, none⟩ (.string S)).setCell ⟨B, 4, none⟩ (.slice a2 n2 k2)).setCell ⟨B, 5, none⟩ (.slice a3 n3 k3)) := ⟨_, rfl⟩
        rw [← hW5]
        have qB5 : W5.heap[B]? = some (.cells #[.bool has, .int .i64 vw, .int .i64 tm, .string S, .slice a2 n2 k2, .slice a3 n3 k3] 24 (0, 0)) := by rw [hW5]; exact set6_new qB4
        have qV5 : W5.heap[w.heap.size]? = some (.cells #[.int .i64 a, .int .i64 b, .int .i64 c] 26 (0, 0)) := by rw [hW5]; exact (set6_old (by omega)).trans qV4
        have qZ5 : W5.heap[w.heap.size + 1]? = some (.cells #[.bool false, .int .i64 0, .int .i64 0, .string ⟨#[]⟩, .slice none 0 0, .slice none 0 0] 24 (0, 0)) := by rw [hW5]; exact (set6_old (by omega)).trans qZ4
        have TW5 : Two W5 (w.heap.size + 2) (Value.slice a2 n2 k2) (Value.slice a3 n3 k3) ps cs := by rw [hW5]; exact (TW.base (by omega)).kept (set6_grown (w := w4) (B := B) (u0 := .bool has) (u1 := .int .i64 vw) (u2 := .int .i64 tm) (u3 := .string S) (u4 := .slice a2 n2 k2) (u5 := .slice a3 n3 k3)) (by omega)
        have G5 : w.grownBy W5 (some B) := by rw [hW5]; exact grown_transB (grown_none BL4) (set6_grown (w := w4) (B := B) (u0 := .bool has) (u1 := .int .i64 vw) (u2 := .int .i64 tm) (u3 := .string S) (u4 := .slice a2 n2 k2) (u5 := .slice a3 n3 k3))
        have hs5 : w.heap.size + 2 ≤ W5.heap.size := by have := lt_of_block qZ5; omega
        clear hW5 TW qB4 qV4 qZ4 qB3 qV3 qZ3 BL4 BL3 hbs d0 d1 d2 d3 d4 d5 df
        obtain ⟨gg, hg1, hg2⟩ : ∃ gg, a2 = some ⟨gg, 0, none⟩ ∧ n2 = ps.length := by
          rcases TW5.p.2 with ⟨h1, h2⟩ | ⟨g', cap', cur', h1, _⟩
          · omega
          · injection h1 with h1 h2 h3; exact ⟨g', h1, h2⟩
        subst hg1
        subst hg2
        obtain ⟨pb, po, hpo, hpb, C0, C1, C2⟩ := rdt_cells (own_rdk vtC_len TW5.p) p hpl2
        cases hpo
        have C0 : W5.cell? ⟨gg, 0 + p * 3, none⟩ = some (.int .i64 a) := by have := congrArg Vt.fr HX.out; simp only at this; rw [← HXA.out, this]; exact C0
        have C1 : W5.cell? ⟨gg, 0 + p * 3 + 1, none⟩ = some (.int .i64 xb) := by have := congrArg Vt.vw HX.out; simp only at this; rw [this]; exact C1
        have C2 : W5.cell? ⟨gg, 0 + p * 3 + 2, none⟩ = some (.int .i64 xc) := by have := congrArg Vt.tm HX.out; simp only at this; rw [this]; exact C2
        rw [Nat.zero_add] at C0 C1 C2
        obtain ⟨d0, d1, d2, d3, d4, d5, df⟩ := block_cells6 qB5
        have qB9 : (W5.alloc (.cells #[.int .i64 a, .int .i64 xb, .int .i64 xc] 26)).heap[B]? = some (.cells #[.bool has, .int .i64 vw, .int .i64 tm, .string S, .slice (some ⟨gg, 0, none⟩) ps.length k2, .slice a3 n3 k3] 24 (0, 0)) := (heap_alloc_old W5 _ (lt_of_block qB5)).trans qB5
        have qV9 : (W5.alloc (.cells #[.int .i64 a, .int .i64 xb, .int .i64 xc] 26)).heap[w.heap.size]? = some (.cells #[.int .i64 a, .int .i64 b, .int .i64 c] 26 (0, 0)) := (heap_alloc_old W5 _ (lt_of_block qV5)).trans qV5
        have qZ9 : (W5.alloc (.cells #[.int .i64 a, .int .i64 xb, .int .i64 xc] 26)).heap[w.heap.size + 1]? = some (.cells #[.bool false, .int .i64 0, .int .i64 0, .string ⟨#[]⟩, .slice none 0 0, .slice none 0 0] 24 (0, 0)) := (heap_alloc_old W5 _ (lt_of_block qZ5)).trans qZ5
        have G9 : w.grownBy (W5.alloc (.cells #[.int .i64 a, .int .i64 xb, .int .i64 xc] 26)) (some B) := grown_more G5 (q := none) (grown_none ((Below.refl _ _).alloc (Nat.le_refl _) _)) (by simp)
        have TW9 : Two (W5.alloc (.cells #[.int .i64 a, .int .i64 xb, .int .i64 xc] 26)) (w.heap.size + 2) (Value.slice (some ⟨gg, 0, none⟩) ps.length k2) (Value.slice a3 n3 k3) ps cs := ⟨TW5.p.alloc _, TW5.c.alloc _, TW5.apart⟩
        have hs9 : w.heap.size + 2 ≤ (W5.alloc (.cells #[.int .i64 a, .int .i64 xb, .int .i64 xc] 26)).heap.size := by rw [World.size_alloc]; omega
        obtain ⟨e0, e1, e2, ef⟩ := block_cells3 qV9
        have IX := idx_vt gg ps.length k2 p hpl2
        simp only [IX, Result.andThen_ok, Oper.upon]
        go_at_K
        clear qB5 qV5 qZ5 G5 TW5 hpb IX
        by_cases h1 : b < xb
        · have f1 : decide (b < xb) = true := decide_eq_true h1
          have HC := Lib.hid (show castE ⟨has, vw, tm, body, ps, cs⟩ ps ⟨a, b, c⟩ = 18 by rw [HCE.out, HLE.out]; rw [if_pos h1])
          have QZ := Lib.hid (set6_new (u0 := .bool false) (u1 := .int .i64 0) (u2 := .int .i64 0) (u3 := .string ⟨#[]⟩) (u4 := .slice none 0 0) (u5 := .slice none 0 0) qZ9)
          have FB := Lib.hid (grown_more G9 (set6_grown (w := _) (B := w.heap.size + 1) (u0 := .bool false) (u1 := .int .i64 0) (u2 := .int .i64 0) (u3 := .string ⟨#[]⟩) (u4 := .slice none 0 0) (u5 := .slice none 0 0)) (fun k hk => by injection hk with hk; omega))
          obtain ⟨z0, z1, z2, z3, z4, z5, zf⟩ := block_cells6 qZ9
          clear hs5 hs9 TW9 G9 qB9 qV9 qZ9
          go_wp2_with fail
          (try simp only [Exit.inBlock, Exit.then])
          refine bodyPost_ret (results_cell_row_tmp rfl _ _ _ _ _ (0, 0) _ rfl QZ.out Tryd.underlying24 rfl slot_size) rfl ?_
          show Z (.returned _) _
          rw [HZ.out]
          exact gives_zero (by unfold prepR; rw [if_neg (by rw [HC.out]; decide)]) HC.out rfl FB.out
        · have f1 : decide (b < xb) = false := decide_eq_false h1
          by_cases h2 : xb = b
          · obtain rfl : b = xb := h2.symm
            by_cases h3 : xc = c
            · obtain rfl : c = xc := h3.symm
              have HC := Lib.hid (show castE ⟨has, vw, tm, body, ps, cs⟩ ps ⟨a, b, c⟩ = 16 by rw [HCE.out, HLE.out]; rw [if_neg h1, if_pos rfl, if_pos rfl])
              have QZ := Lib.hid (set6_new (u0 := .bool false) (u1 := .int .i64 0) (u2 := .int .i64 0) (u3 := .string ⟨#[]⟩) (u4 := .slice none 0 0) (u5 := .slice none 0 0) qZ9)
              have FB := Lib.hid (grown_more G9 (set6_grown (w := _) (B := w.heap.size + 1) (u0 := .bool false) (u1 := .int .i64 0) (u2 := .int .i64 0) (u3 := .string ⟨#[]⟩) (u4 := .slice none 0 0) (u5 := .slice none 0 0)) (fun k hk => by injection hk with hk; omega))
              obtain ⟨z0, z1, z2, z3, z4, z5, zf⟩ := block_cells6 qZ9
              clear hs5 hs9 TW9 G9 qB9 qV9 qZ9
              go_wp2_with ((with_reducible refine wpList_run (o := ⟨some 67, _, _, _, _, _⟩) rfl (.bool true) ?_ ?_); · exact vt_eq_op _ _ _ _ _ a b c a b c _ (by simp) rfl rfl rfl _)
              (try simp only [Exit.inBlock, Exit.then])
              refine bodyPost_ret (results_cell_row_tmp rfl _ _ _ _ _ (0, 0) _ rfl QZ.out Tryd.underlying24 rfl slot_size) rfl ?_
              show Z (.returned _) _
              rw [HZ.out]
              exact gives_zero (by unfold prepR; rw [if_neg (by rw [HC.out]; decide)]) HC.out rfl FB.out
            · have f3 : (xc == c) = false := by simpa using h3
              have HC := Lib.hid (show castE ⟨has, vw, tm, body, ps, cs⟩ ps ⟨a, b, c⟩ = 23 by rw [HCE.out, HLE.out]; rw [if_neg h1, if_pos rfl, if_neg h3])
              have QZ := Lib.hid (set6_new (u0 := .bool false) (u1 := .int .i64 0) (u2 := .int .i64 0) (u3 := .string ⟨#[]⟩) (u4 := .slice none 0 0) (u5 := .slice none 0 0) qZ9)
              have FB := Lib.hid (grown_more G9 (set6_grown (w := _) (B := w.heap.size + 1) (u0 := .bool false) (u1 := .int .i64 0) (u2 := .int .i64 0) (u3 := .string ⟨#[]⟩) (u4 := .slice none 0 0) (u5 := .slice none 0 0)) (fun k hk => by injection hk with hk; omega))
              obtain ⟨z0, z1, z2, z3, z4, z5, zf⟩ := block_cells6 qZ9
              clear hs5 hs9 TW9 G9 qB9 qV9 qZ9
              go_wp2_with ((with_reducible refine wpList_run (o := ⟨some 67, _, _, _, _, _⟩) rfl (.bool false) ?_ ?_); · exact vt_eq_op _ _ _ _ _ a b xc a b c _ (by simp; exact h3) rfl rfl rfl _)
              (try simp only [Exit.inBlock, Exit.then])
              refine bodyPost_ret (results_cell_row_tmp rfl _ _ _ _ _ (0, 0) _ rfl QZ.out Tryd.underlying24 rfl slot_size) rfl ?_
              show Z (.returned _) _
              rw [HZ.out]
              exact gives_zero (by unfold prepR; rw [if_neg (by rw [HC.out]; decide)]) HC.out rfl FB.out
          · have f2 : (xb == b) = false := by simpa using h2
            have HC := Lib.hid (show castE ⟨has, vw, tm, body, ps, cs⟩ ps ⟨a, b, c⟩ = 0 by rw [HCE.out, HLE.out, if_neg h1, if_neg h2])
            have HN2 := Lib.hid h2
            clear h2
            obtain ⟨W9, hW9⟩ : ∃ W9, W9 = W5.alloc (.cells #[.int .i64 a, .int .i64 xb, .int .i64 xc] 26) := ⟨_, rfl⟩
            rw [← hW9] at qB9 qV9 qZ9 G9 TW9 hs9
            go_wp2_with ((with_reducible refine wpList_run (o := ⟨some 67, _, _, _, _, _⟩) rfl (.bool false) ?_ ?_); · exact vt_eq_op _ _ _ _ _ a xb xc a b c _ (by simp; intro e; exact absurd e HN2.out) rfl rfl rfl _)
            rw [← hW9]
            have HIS := Lib.hid (show ∀ i, i < 3 → (W9.cell? ⟨gg, p * 3 + i, none⟩).isSome = true by
              intro i hi
              rw [TW9.p.cellAt (p * 3 + i) (by have := Nat.mul_le_mul_right 3 (show p + 1 ≤ ps.length from hpl2); omega), List.getElem?_eq_getElem (by rw [flat_len vtC_len]; have := Nat.mul_le_mul_right 3 (show p + 1 ≤ ps.length from hpl2); omega)]; rfl)
            have HFZ := Lib.hid (show ∀ i, W9.frozen? ⟨gg, p * 3 + i, none⟩ = false from fun i => TW9.p.frozenAt (p * 3 + i))
            clear hW9 d0 d1 d2 d3 d4 d5 df e0 e1 e2 ef C0 C1 C2 hs5
            refine t_start 6 (by kernel_rfl) ?_
            refine t_take (i := 0) (d := (some 76)) (v := ?_) rfl rfl (by kernel_rfl) (fun _ _ _ h => h) (by rfl) (fun w' hb' => ?_) ?_
            rotate_left
            · (try go_simp); (try with_reducible rfl)
            try simp only [Act.put, List.setIfInBounds_toArray, List.set_cons_zero, List.set_cons_succ]
            refine t_take (i := 1) (d := (some 77)) (v := ?_) rfl rfl (by kernel_rfl) (fun _ _ _ h => h) (by rfl) (fun w' hb' => ?_) ?_
            rotate_left
            · (try go_simp); (try with_reducible rfl)
            try simp only [Act.put, List.setIfInBounds_toArray, List.set_cons_zero, List.set_cons_succ]
            refine t_take (i := 2) (d := (some 78)) (v := ?_) rfl rfl (by kernel_rfl) (fun _ _ _ h => h) (by rfl) (fun w' hb' => ?_) ?_
            rotate_left
            · obtain ⟨d0, d1, d2, d3, d4, d5, df⟩ := block_cells6 ((hb'.block _ (lt_of_block qB9)).trans qB9); (try go_simp); (try with_reducible rfl)
            try simp only [Act.put, List.setIfInBounds_toArray, List.set_cons_zero, List.set_cons_succ]
            refine t_take (i := 3) (d := (some 79)) (v := ?_) rfl rfl (by kernel_rfl) (fun _ _ _ h => h) (by rfl) (fun w' hb' => ?_) ?_
            rotate_left
            · (try go_simp); (try with_reducible rfl)
            try simp only [Act.put, List.setIfInBounds_toArray, List.set_cons_zero, List.set_cons_succ]
            refine t_take (i := 4) (d := (some 80)) (v := ?_) rfl rfl (by kernel_rfl) (fun _ _ _ h => h) (by rfl) (fun w' hb' => ?_) ?_
            rotate_left
            · obtain ⟨e0, e1, e2, ef⟩ := block_cells3 ((hb'.block _ (lt_of_block qV9)).trans qV9); (try go_simp); (try with_reducible rfl)
            try simp only [Act.put, List.setIfInBounds_toArray, List.set_cons_zero, List.set_cons_succ]
            refine t_take (i := 5) (d := (some 81)) (v := ?_) rfl rfl (by kernel_rfl) (fun _ _ _ h => h) (by rfl) (fun w' hb' => ?_) ?_
            rotate_left
            · (try go_simp); (try with_reducible rfl)
            try simp only [Act.put, List.setIfInBounds_toArray, List.set_cons_zero, List.set_cons_succ]
            refine t_into ?_
            refine t_tail (i := 6) rfl (by kernel_rfl) (by kernel_rfl) (by rfl) (fun K hK => ?_)
            obtain ⟨x0, hx0⟩ := Option.isSome_iff_exists.1 (HIS.out 0 (by omega))
            obtain ⟨x1, hx1⟩ := Option.isSome_iff_exists.1 (HIS.out 1 (by omega))
            obtain ⟨x2, hx2⟩ := Option.isSome_iff_exists.1 (HIS.out 2 (by omega))
            have y0 := HFZ.out 0
            have y1 := HFZ.out 1
            have y2 := HFZ.out 2
            simp only [Nat.add_zero] at hx0 y0
            go_simp; refine hK _ _ ?_; clear hK K hx0 hx1 hx2 y0 y1 y2
            try simp only [Act.put, List.setIfInBounds_toArray, List.set_cons_zero, List.set_cons_succ]
            refine t_over (by kernel_rfl) ?_
            have hgB : w.heap.size + 2 ≤ gg := (TW9.p.lt gg rfl).1
            have GS : W9.grownBy (((W9.setCell ⟨gg, p * 3, none⟩ (.int .i64 a)).setCell ⟨gg, p * 3 + 1, none⟩ (.int .i64 b)).setCell ⟨gg, p * 3 + 2, none⟩ (.int .i64 c)).drew (some gg) := grown_drewB (grown_setB (grown_setB (grown_setB grown_reflB)))
            have G8 := grown_more G9 GS (fun k hk => by injection hk with hk; omega)
            have qB8 : (((W9.setCell ⟨gg, p * 3, none⟩ (.int .i64 a)).setCell ⟨gg, p * 3 + 1, none⟩ (.int .i64 b)).setCell ⟨gg, p * 3 + 2, none⟩ (.int .i64 c)).drew.heap[B]? = some (.cells #[.bool has, .int .i64 vw, .int .i64 tm, .string S, .slice (some ⟨gg, 0, none⟩) ps.length k2, .slice a3 n3 k3] 24 (0, 0)) := by show (((W9.setCell ⟨gg, p * 3, none⟩ (.int .i64 a)).setCell ⟨gg, p * 3 + 1, none⟩ (.int .i64 b)).setCell ⟨gg, p * 3 + 2, none⟩ (.int .i64 c)).heap[B]? = _; rw [set3_old (by omega)]; exact qB9
            have qZ8 : (((W9.setCell ⟨gg, p * 3, none⟩ (.int .i64 a)).setCell ⟨gg, p * 3 + 1, none⟩ (.int .i64 b)).setCell ⟨gg, p * 3 + 2, none⟩ (.int .i64 c)).drew.heap[w.heap.size + 1]? = some (.cells #[.bool false, .int .i64 0, .int .i64 0, .string ⟨#[]⟩, .slice none 0 0, .slice none 0 0] 24 (0, 0)) := by show (((W9.setCell ⟨gg, p * 3, none⟩ (.int .i64 a)).setCell ⟨gg, p * 3 + 1, none⟩ (.int .i64 b)).setCell ⟨gg, p * 3 + 2, none⟩ (.int .i64 c)).heap[w.heap.size + 1]? = _; rw [set3_old (by omega)]; exact qZ9
            have oX8 := (own_set3 (p := p) (x := ⟨a, b, c⟩) TW9.p).drew
            have oY8 := TW9.c.kept GS (by
              cases hq : (Value.slice a3 n3 k3).ownBlock with
              | none => exact .inl rfl
              | some q => exact .inr fun e => TW9.apart gg (rfl) (by rw [hq]; exact e))
            have hs8 : w.heap.size + 2 ≤ (((W9.setCell ⟨gg, p * 3, none⟩ (.int .i64 a)).setCell ⟨gg, p * 3 + 1, none⟩ (.int .i64 b)).setCell ⟨gg, p * 3 + 2, none⟩ (.int .i64 c)).drew.heap.size := by show _ ≤ (((W9.setCell ⟨gg, p * 3, none⟩ (.int .i64 a)).setCell ⟨gg, p * 3 + 1, none⟩ (.int .i64 b)).setCell ⟨gg, p * 3 + 2, none⟩ (.int .i64 c)).heap.size; simpa using hs9
            have HLL := Lib.hid (show ps.set p (⟨a, b, c⟩ : Vt) = layL ps ⟨a, b, c⟩ by rw [HP.out]; exact (lay_yes (v := ⟨a, b, c⟩) HSO.out HF.out).symm)
            rw [HLL.out] at oX8
            have HLLN := Lib.hid (show (layL ps ⟨a, b, c⟩).length = ps.length by rw [← HLL.out, List.length_set])
            simp only at oX8
            obtain ⟨W8, hW8⟩ : ∃ W8, W8 = (((W9.setCell ⟨gg, p * 3, none⟩ (.int .i64 a)).setCell ⟨gg, p * 3 + 1, none⟩ (.int .i64 b)).setCell ⟨gg, p * 3 + 2, none⟩ (.int .i64 c)).drew := ⟨_, rfl⟩
            rw [← hW8] at G8 qB8 qZ8 oX8 oY8 hs8 ⊢
            clear hW8 GS G9 qB9 qV9 qZ9 TW9 HIS HFZ hs9
            obtain ⟨d0, d1, d2, d3, d4, d5, df⟩ := block_cells6 qB8
            obtain ⟨z0, z1, z2, z3, z4, z5, zf⟩ := block_cells6 qZ8
            have QZ := Lib.hid (set6_new (u0 := .bool has) (u1 := .int .i64 vw) (u2 := .int .i64 tm) (u3 := .string S) (u4 := .slice (some ⟨gg, 0, none⟩) ps.length k2) (u5 := .slice a3 n3 k3) qZ8)
            have FG := Lib.hid (grown_more G8 (set6_grown (w := W8) (B := w.heap.size + 1) (u0 := .bool has) (u1 := .int .i64 vw) (u2 := .int .i64 tm) (u3 := .string S) (u4 := .slice (some ⟨gg, 0, none⟩) ps.length k2) (u5 := .slice a3 n3 k3)) (fun k hk => by injection hk with hk; omega))
            have OX := Lib.hid (oX8.kept (set6_grown (w := W8) (B := w.heap.size + 1) (u0 := .bool has) (u1 := .int .i64 vw) (u2 := .int .i64 tm) (u3 := .string S) (u4 := .slice (some ⟨gg, 0, none⟩) ps.length k2) (u5 := .slice a3 n3 k3)) (by
              cases hq : Value.ownBlock _ with
              | none => exact .inl rfl
              | some q => exact .inr fun e => by injection e with e; have := (oX8.lt q hq).1; omega))
            have OY := Lib.hid (oY8.kept (set6_grown (w := W8) (B := w.heap.size + 1) (u0 := .bool has) (u1 := .int .i64 vw) (u2 := .int .i64 tm) (u3 := .string S) (u4 := .slice (some ⟨gg, 0, none⟩) ps.length k2) (u5 := .slice a3 n3 k3)) (by
              cases hq : Value.ownBlock _ with
              | none => exact .inl rfl
              | some q => exact .inr fun e => by injection e with e; have := (oY8.lt q hq).1; omega))
            clear qB8 qZ8 G8 oX8 oY8 hs8
            go_wp2_with fail
            (try simp only [Exit.inBlock, Exit.then])
            refine bodyPost_ret (results_cell_row_tmp rfl _ _ _ _ _ (0, 0) _ rfl QZ.out Tryd.underlying24 rfl slot_size) rfl ?_
            show Z (.returned _) _
            rw [HZ.out]
            have e1 : prepR ⟨has, vw, tm, body, ps, cs⟩ ⟨a, b, c⟩ = ⟨has, vw, tm, body, layL ps ⟨a, b, c⟩, cs⟩ := by unfold prepR; rw [if_pos HC.out]
            rw [e1, HC.out]
            refine ⟨(.slice (some ⟨gg, 0, none⟩) ps.length k2), (.slice a3 n3 k3), by rw [HS.out]; rfl, ⟨(by show World.ownsRow _ _ _ _ _ (layL ps ⟨a, b, c⟩).length _; rw [HLLN.out]; exact own_base OX.out (by omega)), own_base OY.out (by omega), HBL.out⟩, FG.out⟩
end Go.Proofs.YtgmblgpfgdfnaaaDoor
