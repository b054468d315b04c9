/- The law LeafScans. Written by wip/tools/gen9t.py. -/
import Derived.Test.YtcehgfganjdghaaDoorK9S
namespace Go.Proofs.YtcehgfganjdghaaDoor
open Go Go.ChangeShapes Go.WideShapes Go.ChangeAt Go.RowKit
set_option linter.unusedVariables false
set_option linter.unusedSimpArgs false
set_option maxRecDepth 100000
theorem items_cells : Tryd.prog.cellsOf 22 = 1 := by kernel_rfl
theorem scan_cells : Tryd.prog.cellsOf 51 = 4 := by kernel_rfl
theorem array4 {α : Type} {cs : Array α} (h : cs.size = 4) : ∃ c0 c1 c2 c3, cs = #[c0, c1, c2, c3] := by
  obtain ⟨l⟩ := cs
  match l, h with
  | [c0, c1, c2, c3], _ => exact ⟨c0, c1, c2, c3, rfl⟩
section
variable {H : Type} {enc : TypeId × Value → H}
theorem open_scan {W : World} {r : Reach} {base b0 : Nat} {hd : Bool} {v : Value} {d : DataW H} {p : List MemPlace}
    (hval : Value.okWide Tryd.prog W r b0 51 v) (h : DataW.Trod enc Tryd.prog W base (fun _ => true) hd 51 v d p) :
    ∃ (u : Value) (l : List It) (f t : List UInt8) (m : Int), v = .agg #[u, .string (str f), .string (str t), .int .i64 m] ∧ RdI W u l ∧ SzI l ∧ WfI l ∧ f.length ≤ maxLen ∧ t.length ≤ maxLen := by
  obtain ⟨cs, rfl, hsz⟩ := okWide_struct Tryd.underlying51 hval
  obtain ⟨c0, c1, c2, c3, rfl⟩ := array4 (hsz.trans scan_cells)
  obtain ⟨fuel, hf⟩ := h
  obtain ⟨xs, n, _, hx, _, hlen, hg⟩ := DataW.trod_struct Tryd.underlying51 hf
  match xs, hlen with
  | [y0, y1, y2, y3], _ =>
    have h0 := hg 0 _ rfl
    have h1 := hg 1 _ rfl
    have h2 := hg 2 _ rfl
    have h3 := hg 3 _ rfl
    simp [Value.cells, items_cells, string_cells9, int_cells9] at h0 h1 h2 h3
    obtain ⟨a1, e1, _, w1⟩ := DataW.trod_string Tryd.underlying9 h1
    obtain ⟨a2, e2, _, w2⟩ := DataW.trod_string Tryd.underlying9 h2
    obtain ⟨a3, e3, _, w3⟩ := DataW.trod_int Tryd.underlying3 h3
    simp at e1 e2 e3
    subst e1 e2 e3
    obtain ⟨l, k1, k2, k3⟩ := open_items_at h0
    exact ⟨c0, l, a1.data.toList, a2.data.toList, a3, by rw [str_of, str_of], k1, k2, k3, by rw [Array.length_toList]; exact w1, by rw [Array.length_toList]; exact w2⟩
end
set_option maxHeartbeats 2000000 in
theorem scans_row (v : Value) (l : List It) (f t : List UInt8) (most : Int) (w : World) (h : RdI w v l) (hsz : SzI l) (hwf : WfI l) (hf : f.length ≤ maxLen) (ht : t.length ≤ maxLen) (tab : TabAt w) :
    Calls Tryd.prog 5 #[.agg #[v, .string (str f), .string (str t), .int .i64 most]] w fun e w' => e = .returned (.bool true) ∧ Below w.heap.size w w' := by
  have FW0 := fun W (h : RdI W v l) => few9_any v l W h hsz
  obtain ⟨L, hL⟩ : ∃ L, L = fewL l := ⟨_, rfl⟩
  have HS := Lib.hid (show SzI L by rw [hL]; exact fewL_sz hsz)
  simp only [← hL] at FW0
  have FW := Lib.hid FW0
  have SH := Lib.hid (fun (s : List UInt8) W hs => short_any s W hs)
  obtain ⟨av, cv, rfl, kv1, kv2⟩ := slice_of_rd h
  have q0 := heap_alloc_new w (.cells #[.slice av l.length cv, .string (str f), .string (str t), .int .i64 most] 51)
  have B0 := (Below.refl w.heap.size w).alloc (Nat.le_refl _) (.cells #[.slice av l.length cv, .string (str f), .string (str t), .int .i64 most] 51)
  have HR0 := Lib.hid (h.below B0 (Nat.le_refl _))
  obtain ⟨F9, hF⟩ : ∃ F9, F9 = f.take 60 := ⟨_, rfl⟩
  obtain ⟨T9, hT⟩ : ∃ T9, T9 = t.take 60 := ⟨_, rfl⟩
  have hF9 : F9.length ≤ maxLen := by rw [hF, List.length_take]; unfold maxLen; omega
  have hT9 : T9.length ≤ maxLen := by rw [hT, List.length_take]; unfold maxLen; omega
  clear hL h hsz hwf FW0
  go_enter Tryd.func5, Tryd.ntmps5
  go_wp2_with fail
  refine g_start (by kernel_rfl) ?_
  refine g_take (i := 0) (d := (some 8)) (v := ?_) rfl rfl (by kernel_rfl) (fun _ _ _ h => h) (by rfl) (fun w' hb' => ?_) ?_
  rotate_left
  · (try go_simp); (try with_reducible rfl)
  try simp only [Act.put, List.setIfInBounds_toArray, List.set_cons_zero, List.set_cons_succ]
  refine g_take (i := 1) (d := (some 9)) (v := ?_) rfl rfl (by kernel_rfl) (fun _ _ _ h => h) (by rfl) (fun w' hb' => ?_) ?_
  rotate_left
  · obtain ⟨d0, d1, d2, d3, dz⟩ := block_cells4 ((hb'.block _ (lt_of_block q0)).trans q0); (try go_simp); (try with_reducible rfl)
  try simp only [Act.put, List.setIfInBounds_toArray, List.set_cons_zero, List.set_cons_succ]
  refine g_take (i := 3) (d := (some 11)) (v := ?_) rfl rfl (by kernel_rfl) (fun _ _ _ h => h) (by rfl) (fun w' hb' => ?_) ?_
  rotate_left
  · (try go_simp); (try with_reducible rfl)
  try simp only [Act.put, List.setIfInBounds_toArray, List.set_cons_zero, List.set_cons_succ]
  refine g_take (i := 4) (d := (some 12)) (v := ?_) rfl rfl (by kernel_rfl) (fun _ _ _ h => h) (by rfl) (fun w' hb' => ?_) ?_
  rotate_left
  · obtain ⟨d0, d1, d2, d3, dz⟩ := block_cells4 ((hb'.block _ (lt_of_block q0)).trans q0); (try go_simp); (try with_reducible rfl)
  try simp only [Act.put, List.setIfInBounds_toArray, List.set_cons_zero, List.set_cons_succ]
  refine g_take (i := 6) (d := (some 14)) (v := ?_) rfl rfl (by kernel_rfl) (fun _ _ _ h => h) (by rfl) (fun w' hb' => ?_) ?_
  rotate_left
  · (try go_simp); (try with_reducible rfl)
  try simp only [Act.put, List.setIfInBounds_toArray, List.set_cons_zero, List.set_cons_succ]
  refine g_take (i := 7) (d := (some 15)) (v := ?_) rfl rfl (by kernel_rfl) (fun _ _ _ h => h) (by rfl) (fun w' hb' => ?_) ?_
  rotate_left
  · obtain ⟨d0, d1, d2, d3, dz⟩ := block_cells4 ((hb'.block _ (lt_of_block q0)).trans q0); (try go_simp); (try with_reducible rfl)
  try simp only [Act.put, List.setIfInBounds_toArray, List.set_cons_zero, List.set_cons_succ]
  refine g_take (i := 9) (d := (some 17)) (v := ?_) rfl rfl (by kernel_rfl) (fun _ _ _ h => h) (by rfl) (fun w' hb' => ?_) ?_
  rotate_left
  · (try go_simp); (try with_reducible rfl)
  try simp only [Act.put, List.setIfInBounds_toArray, List.set_cons_zero, List.set_cons_succ]
  refine g_take (i := 10) (d := (some 18)) (v := ?_) rfl rfl (by kernel_rfl) (fun _ _ _ h => h) (by rfl) (fun w' hb' => ?_) ?_
  rotate_left
  · obtain ⟨d0, d1, d2, d3, dz⟩ := block_cells4 ((hb'.block _ (lt_of_block q0)).trans q0); (try go_simp); (try with_reducible rfl)
  try simp only [Act.put, List.setIfInBounds_toArray, List.set_cons_zero, List.set_cons_succ]
  refine g_run (i := 2) rfl (by kernel_rfl) (by rfl) (fun K hK => ?_)
  go_simp; refine (FW.out _ (HR0.out.below (Below.refl _ _).drew (Nat.le_refl _))).mono ?_; rintro e w3 ⟨v3, rfl, o3, b3⟩; obtain ⟨a3, c3, rfl, k3, k4⟩ := slice_of_rd (OwnI.rd (w := w) o3); have q3 := (b3.block _ (lt_of_block q0)).trans q0; refine hK _ _ ⟨b3, ?_⟩; clear hK K
  try simp only [Act.put, List.setIfInBounds_toArray, List.set_cons_zero, List.set_cons_succ]
  refine g_run (i := 5) rfl (by kernel_rfl) (by rfl) (fun K hK => ?_)
  go_simp; refine (SH.out _ _ (by first | exact hf | exact ht)).mono ?_; rintro e w4 ⟨rfl, rfl⟩; refine hK _ _ ⟨Below.refl _ _, ?_⟩; clear hK K
  try simp only [Act.put, List.setIfInBounds_toArray, List.set_cons_zero, List.set_cons_succ]
  refine g_run (i := 8) rfl (by kernel_rfl) (by rfl) (fun K hK => ?_)
  go_simp; refine (SH.out _ _ (by first | exact hf | exact ht)).mono ?_; rintro e w4 ⟨rfl, rfl⟩; refine hK _ _ ⟨Below.refl _ _, ?_⟩; clear hK K
  try simp only [Act.put, List.setIfInBounds_toArray, List.set_cons_zero, List.set_cons_succ]
  refine g_take (i := 11) (d := (some 3)) (v := ?_) rfl rfl (by kernel_rfl) (fun _ _ _ h => h) (by rfl) (fun w' hb' => ?_) ?_
  rotate_left
  · (try go_simp); (try with_reducible rfl)
  try simp only [Act.put, List.setIfInBounds_toArray, List.set_cons_zero, List.set_cons_succ]
  refine g_take (i := 12) (d := (some 4)) (v := ?_) rfl rfl (by kernel_rfl) (fun _ _ _ h => h) (by rfl) (fun w' hb' => ?_) ?_
  rotate_left
  · (try go_simp); (try with_reducible rfl)
  try simp only [Act.put, List.setIfInBounds_toArray, List.set_cons_zero, List.set_cons_succ]
  refine g_take (i := 13) (d := (some 5)) (v := ?_) rfl rfl (by kernel_rfl) (fun _ _ _ h => h) (by rfl) (fun w' hb' => ?_) ?_
  rotate_left
  · (try go_simp); (try with_reducible rfl)
  try simp only [Act.put, List.setIfInBounds_toArray, List.set_cons_zero, List.set_cons_succ]
  refine g_take (i := 14) (d := (some 6)) (v := ?_) rfl rfl (by kernel_rfl) (fun _ _ _ h => h) (by rfl) (fun w' hb' => ?_) ?_
  rotate_left
  · (try go_simp); (try with_reducible rfl)
  try simp only [Act.put, List.setIfInBounds_toArray, List.set_cons_zero, List.set_cons_succ]
  refine g_done (by kernel_rfl) ?_

  rw [← hF, ← hT]
  clear hF hT
  have hr3 := OwnI.rd (w := w) o3
  have B3 := chain (Below.drew B0) b3
  have T3 := tab.below B3
  have RDL := Lib.hid hr3
  have T0 := Lib.hid T3
  have SC := scan_any a3 c3 L F9 T9 most w3 T3 hr3 HS.out hF9 hT9
  have SCH := Lib.hid SC
  have B3H := Lib.hid B3
  clear o3 q0 q3 b3 hr3 T3 SC B0 FW SH
  go_wp2_with fail
  refine SCH.out.mono ?_
  rintro e w4 ⟨v4, rfl, o4, g4⟩
  have hr4 := OwnI.rd (w := w) o4
  obtain ⟨a4, c4, rfl, k5, k6⟩ := slice_of_rd hr4
  have R4 := Lib.hid hr4
  have IS := refIs9_any (.slice a3 L.length c3) L w4 (T0.out.below g4) (RDL.out.below g4 (Nat.le_refl _)) HS.out
  clear o4 hr4 SCH
  cases hl : isL L with
  | false =>
    rw [hl] at IS
    have e0 : scanR F9 T9 most L = [] := by unfold scanR; rw [if_neg (by simp [hl])]
    rw [e0] at k5
    have z0 : (scanR F9 T9 most L).length = 0 := by rw [e0]; rfl
    clear hl e0
    go_wp2_with fail
    refine IS.mono ?_
    rintro e w5 ⟨rfl, g5⟩
    have bel5 := chain g4 g5
    have AW := awake9_any.at _ (T0.out.below bel5)
    clear IS
    go_wp2_with fail
    refine AW.mono ?_
    rintro e w7 ⟨rfl, g7⟩
    go_wp2_with fail
    go_ret
    exact ⟨rfl, chain B3H.out (chain bel5 g7)⟩
  | true =>
    rw [hl] at IS
    have e0 : scanR F9 T9 most L = scanF F9 T9 most L := by unfold scanR; rw [if_pos hl]
    have h64 := isL_len hl
    have hsl := scan_len F9 T9 most L
    rw [e0] at k5 R4
    rw [e0]
    clear hl e0
    go_wp2_with fail
    refine IS.mono ?_
    rintro e w5 ⟨rfl, g5⟩
    have bel5 := chain g4 g5
    clear IS
    have RS := refScan_loop a3 c3 L F9 T9 most w5 (T0.out.below bel5) (RDL.out.below bel5 (Nat.le_refl _)) HS.out hF9 hT9 h64
    have RSH := Lib.hid RS
    obtain ⟨G, hG⟩ : ∃ G, G = scanF F9 T9 most L := ⟨_, rfl⟩
    rw [← hG] at RS hsl R4 k5
    rw [← hG]
    clear hG RSH
    go_wp2_with fail
    refine RS.mono ?_
    rintro e w6 ⟨v6, rfl, o6, g6⟩
    have hr6 := OwnI.rd (w := w) o6
    have R4b := ((R4.out.below g5 (Nat.le_refl _)).below g6 (Nat.le_refl _))
    have SM := refSame_yes (.slice a4 G.length c4) v6 G w6 R4b hr6 (by omega)
    have bel6 := chain bel5 g6
    clear RS o6 hr6 R4b
    go_wp2_with fail
    refine SM.mono ?_
    rintro e w8 ⟨rfl, n8, hw8⟩
    have g8 : Below w6.heap.size w6 w8 := by rw [hw8]; exact below_drewN (Below.refl _ _)
    have bel8 := chain bel6 g8
    have AW := awake9_any.at _ (T0.out.below bel8)
    clear hw8 SM
    go_wp2_with fail
    refine AW.mono ?_
    rintro e w9 ⟨rfl, g9⟩
    go_wp2_with fail
    go_ret
    exact ⟨rfl, chain B3H.out (chain bel8 g9)⟩
end Go.Proofs.YtcehgfganjdghaaDoor
