/- The document's Voice; ring2. Written by wip/tools/gen4j.py. -/
import Derived.Test.YtojjpnkdblaidaaR4I
namespace Go.Proofs.Ytojjpnkdblaidaa
open Go Go.RowKit Go.Maps
set_option linter.unusedVariables false
set_option linter.unusedSimpArgs false
set_option maxRecDepth 100000 in
set_option maxHeartbeats 1000000 in
theorem voice_any (n : Int) (rv lv v : Value) (T N : List St) (hT : T.length ≤ 1000) (hN : N.length ≤ 1000) (s : St) (p : Int) (hs : s.Wf) (hp : (Lit.int .i64 p).wf = true) (w : World) (hr : ∃ ao m c, rv = .slice ao m c) (h : RdS w lv T) (hv : RdS w v N) :
    Calls Try.prog 20 #[.agg #[.int .i64 n, rv, lv], v, s.v, .int .i64 p] w fun e w' => e = .returned (.bool (decide (({ s with a := p } : St) ∈ N ∧ ({ s with a := p } : St) ∈ T))) ∧ Below w.heap.size w w' := by
  have hh := h
  obtain ⟨a2, c2, hlv, _⟩ := hh
  obtain ⟨a1, m1, c1, hrv⟩ := hr
  obtain ⟨m2, hm2⟩ : ∃ m2, m2 = T.length := ⟨_, rfl⟩
  rw [← hm2] at hlv
  obtain ⟨ao, cap, rfl, hc, hm, hwf, HA⟩ := hv
  have HH := Lib.hid (fun (w' : World) (g : Below w.heap.size w w') => refHas_any n rv lv T hT ({ s with a := p } : St) w' ⟨_, _, _, hrv⟩ (h.below g))
  subst hlv hrv
  clear hm2 h
  obtain ⟨W, hW⟩ : ∃ W, W = (w.alloc (.cells #[.int .i64 n, .slice a1 m1 c1, .slice a2 m2 c2] 27)).alloc (.cells #[.int .i64 p, .int .i64 s.b, .int .i64 s.c, .int .i64 s.d, .int .i64 s.e] 39) := ⟨_, rfl⟩
  have Be : Below w.heap.size w W := by rw [hW]; exact ((Below.refl _ _).alloc (Nat.le_refl _) _).alloc (by simp) _
  have q1 : W.heap[w.heap.size]? = some (.cells #[.int .i64 n, .slice a1 m1 c1, .slice a2 m2 c2] 27 (0, 0)) := by rw [hW, heap_alloc_old _ _ (by simp)]; exact heap_alloc_new _ _
  have q2 : W.heap[w.heap.size + 1]? = some (.cells #[.int .i64 p, .int .i64 s.b, .int .i64 s.c, .int .i64 s.d, .int .i64 s.e] 39 (0, 0)) := by rw [hW]; exact heap_alloc2_new w _ _
  unfold St.v at HH
  unfold St.v
  go_enter Try.func20, Try.ntmps20
  go_wp2_with fail
  rw [← hW]
  clear hW
  have f2 := cells5 q2
  go_loopw [9] (fun i wr => ∃ j : Nat, j ≤ N.length ∧ i = .int .i64 (j : Int) ∧ Hid (¬ ({ s with a := p } : St) ∈ N.take j) ∧ Below W.heap.size W wr) (fun i _ => 1000 - (intOf i).toNat)
  case atStart => exact ⟨0, Nat.zero_le _, rfl, Lib.hid (by simp), Below.refl _ _⟩
  case round =>
    obtain ⟨j, hj, rfl, hall, bel⟩ := hrel
    have r1 := (bel.block _ (lt_of_block q1)).trans q1
    have r2 := (bel.block _ (lt_of_block q2)).trans q2
    by_cases hjx : j < N.length
    · obtain ⟨b, off, rfl, hb, hcells⟩ := HA.out (by omega)
      have hc5 := hcells j hjx
      have ht : N.take (j + 1) = N.take j ++ [N[j]] := by rw [List.take_succ_eq_append_getElem hjx]
      have hmem : N[j] ∈ N := List.getElem_mem hjx
      obtain ⟨t, ex⟩ : ∃ t, t = N[j] := ⟨_, rfl⟩
      rw [← ex] at hc5 ht hmem
      have HT := Lib.hid ht
      have HM := Lib.hid hmem
      have RB := Lib.hid (fun (w' : World) (hb' : Below wr.drew.heap.size wr.drew w') => cells3 ((hb'.block _ (lt_of_block r1)).trans r1))
      have SC := Lib.hid (fun (w' : World) (hb' : Below wr.drew.heap.size wr.drew w') => cells5 ((hb'.block _ (lt_of_block r2)).trans r2))
      have AC := Lib.hid (fun (w' : World) (hb' : Below wr.drew.heap.size wr.drew w') => hc5.of (((hb'.block b (Nat.lt_of_lt_of_le hb (Nat.le_trans Be.size bel.size))).trans (bel.block b (Nat.lt_of_lt_of_le hb Be.size))).trans (Be.block b hb)))
      have hE := eq_st t ({ s with a := p } : St)
      dsimp only at hE
      have belD : Below w.heap.size w wr.drew := (chain Be bel).drew
      clear ht hmem ex hcells hc5
      cases hD : decide (t = ({ s with a := p } : St)) with
      | true =>
        rw [hD] at hE
        have HD := Lib.hid hD
        clear hD
        go_wp2_with fail
        refine g_start (by kernel_rfl) ?_
        refine g_take (i := 0) (d := (some 18)) (v := ?_) rfl rfl (by kernel_rfl) (fun _ _ _ h => h) (by rfl) (fun w' hb' => ?_) ?_
        rotate_left
        · (try go_simp); (try with_reducible rfl)
        try simp only [Act.put, List.setIfInBounds_toArray, List.set_cons_zero, List.set_cons_succ]
        refine g_take (i := 1) (d := (some 19)) (v := ?_) rfl rfl (by kernel_rfl) (fun _ _ _ h => h) (by rfl) (fun w' hb' => ?_) ?_
        rotate_left
        · (try go_simp); (try with_reducible rfl)
        try simp only [Act.put, List.setIfInBounds_toArray, List.set_cons_zero, List.set_cons_succ]
        refine g_take (i := 2) (d := (some 20)) (v := ?_) rfl rfl (by kernel_rfl) (fun _ _ _ h => h) (by rfl) (fun w' hb' => ?_) ?_
        rotate_left
        · (try go_simp); (try with_reducible rfl)
        try simp only [Act.put, List.setIfInBounds_toArray, List.set_cons_zero, List.set_cons_succ]
        refine g_take (i := 3) (d := (some 21)) (v := ?_) rfl rfl (by kernel_rfl) (fun _ _ _ h => h) (by rfl) (fun w' hb' => ?_) ?_
        rotate_left
        · have hc := AC.out _ hb'; obtain ⟨k1, k2, k3, k4, k5⟩ := hc; (try go_simp); (try with_reducible rfl)
        try simp only [Act.put, List.setIfInBounds_toArray, List.set_cons_zero, List.set_cons_succ]
        refine g_take (i := 4) (d := (some 22)) (v := ?_) rfl rfl (by kernel_rfl) (fun _ _ _ h => h) (by rfl) (fun w' hb' => ?_) ?_
        rotate_left
        · have hc := SC.out _ hb'; (try go_simp); (try with_reducible rfl)
        try simp only [Act.put, List.setIfInBounds_toArray, List.set_cons_zero, List.set_cons_succ]
        refine g_take (i := 5) (d := (some 23)) (v := ?_) rfl rfl (by kernel_rfl) (fun _ _ _ h => h) (by rfl) (fun w' hb' => ?_) ?_
        rotate_left
        · (try go_simp); (try with_reducible rfl)
        try simp only [Act.put, List.setIfInBounds_toArray, List.set_cons_zero, List.set_cons_succ]
        refine g_done (by kernel_rfl) ?_
        have f1 := RB.out _ (Below.refl _ _)
        have f3 := SC.out _ (Below.refl _ _)
        have hh := HH.out _ belD
        try dsimp only at hh
        clear RB SC AC
        go_wp2_with fail
        refine hh.mono ?_
        rintro e w2 ⟨rfl, g2⟩
        go_wp2_with fail
        go_ret
        have em : ({ s with a := p } : St) ∈ N := by rw [← of_decide_eq_true HD.out]; exact HM.out
        exact ⟨ret_b (by simp [em]), chain belD g2⟩
      | false =>
        rw [hD] at hE
        have HD := Lib.hid hD
        clear hD
        go_wp2_with fail
        refine g_start (by kernel_rfl) ?_
        refine g_take (i := 0) (d := (some 18)) (v := ?_) rfl rfl (by kernel_rfl) (fun _ _ _ h => h) (by rfl) (fun w' hb' => ?_) ?_
        rotate_left
        · (try go_simp); (try with_reducible rfl)
        try simp only [Act.put, List.setIfInBounds_toArray, List.set_cons_zero, List.set_cons_succ]
        refine g_take (i := 1) (d := (some 19)) (v := ?_) rfl rfl (by kernel_rfl) (fun _ _ _ h => h) (by rfl) (fun w' hb' => ?_) ?_
        rotate_left
        · (try go_simp); (try with_reducible rfl)
        try simp only [Act.put, List.setIfInBounds_toArray, List.set_cons_zero, List.set_cons_succ]
        refine g_take (i := 2) (d := (some 20)) (v := ?_) rfl rfl (by kernel_rfl) (fun _ _ _ h => h) (by rfl) (fun w' hb' => ?_) ?_
        rotate_left
        · (try go_simp); (try with_reducible rfl)
        try simp only [Act.put, List.setIfInBounds_toArray, List.set_cons_zero, List.set_cons_succ]
        refine g_take (i := 3) (d := (some 21)) (v := ?_) rfl rfl (by kernel_rfl) (fun _ _ _ h => h) (by rfl) (fun w' hb' => ?_) ?_
        rotate_left
        · have hc := AC.out _ hb'; obtain ⟨k1, k2, k3, k4, k5⟩ := hc; (try go_simp); (try with_reducible rfl)
        try simp only [Act.put, List.setIfInBounds_toArray, List.set_cons_zero, List.set_cons_succ]
        refine g_take (i := 4) (d := (some 22)) (v := ?_) rfl rfl (by kernel_rfl) (fun _ _ _ h => h) (by rfl) (fun w' hb' => ?_) ?_
        rotate_left
        · have hc := SC.out _ hb'; (try go_simp); (try with_reducible rfl)
        try simp only [Act.put, List.setIfInBounds_toArray, List.set_cons_zero, List.set_cons_succ]
        refine g_take (i := 5) (d := (some 23)) (v := ?_) rfl rfl (by kernel_rfl) (fun _ _ _ h => h) (by rfl) (fun w' hb' => ?_) ?_
        rotate_left
        · (try go_simp); (try with_reducible rfl)
        try simp only [Act.put, List.setIfInBounds_toArray, List.set_cons_zero, List.set_cons_succ]
        refine g_done (by kernel_rfl) ?_
        go_wp2_with fail
        go_roundw
        case rel => exact ⟨j + 1, by omega, by go_num, Lib.hid (by rw [HT.out, List.mem_append, List.mem_singleton]; rintro (h | h); exact hall.out h; exact of_decide_eq_false HD.out h.symm), bel.drew⟩
        case measure => simp [intOf]; omega
    · go_wp2_with fail
      go_ret
      have hx2 := hall.out
      rw [List.take_of_length_le (by omega)] at hx2
      exact ⟨ret_b (by symm; simp [hx2]), chain Be bel⟩
theorem r2_fin {w V : World} {n : Int} {x y : Value} {z0 z1 z2 : Value} (bel : Below w.heap.size w V) (h : V.heap[w.heap.size]? = some (.cells #[z0, z1, z2] 27 (0, 0))) :
    (((V.setCell ⟨w.heap.size, 0, none⟩ (.int .i64 n)).setCell ⟨w.heap.size, 1, none⟩ x).setCell ⟨w.heap.size, 2, none⟩ y).heap[w.heap.size]? = some (.cells #[.int .i64 n, x, y] 27 (0, 0)) ∧
    Below w.heap.size w (((V.setCell ⟨w.heap.size, 0, none⟩ (.int .i64 n)).setCell ⟨w.heap.size, 1, none⟩ x).setCell ⟨w.heap.size, 2, none⟩ y) := by
  refine ⟨by simpa using set_at (i := 2) (u := y) (set_at (i := 1) (u := x) (set_at (i := 0) (u := .int .i64 n) h)), ?_⟩
  exact ((bel.setCell (Nat.le_refl _) _).setCell (Nat.le_refl _) _).setCell (Nat.le_refl _) _
theorem rg_far {w : World} {base B M n k : Nat} {bad : Nat → Bool} {sv : Value} {L : List St} (h : RG w base B M n bad sv L) (hk : k < base) (ho : k = B ∨ k = M ∨ sv.ownBlock = some k) : False := by
  rcases ho with e | e | e
  · have := h.bB; omega
  · have := h.bM; omega
  · have := (h.row.lt k e).1; omega
/-- What ring2 hands back. -/
def Ring2P (w : World) (p : Int) (xs : List Int) (e : Ending) (w' : World) : Prop :=
  Below w.heap.size w w' ∧ ∃ v, RdV w v (xs.map iv) ∧ ((mayN p xs = false ∧ e = .returned (.tuple #[.pointer none, .agg #[.int .i64 p, v, .slice none 0 0], .bool false])) ∨
    (mayN p xs = true ∧ ∃ (B M n b : Nat), p = (n : Int) ∧ w.heap.size ≤ b ∧ b ≤ w'.heap.size ∧ e = .returned (.tuple #[.pointer (some ⟨B, 0, none⟩), .agg #[.int .i64 p, v, .slice none 0 0], .bool true]) ∧ RG w' b B M n (badOf xs) (.slice none 0 0) []))
theorem new_any (p : Int) (v : Value) (xs : List Int) (hx : xs.length ≤ 1000) (w : World) (h : RdV w v (xs.map iv)) :
    Calls Try.prog 8 #[.int .i64 p, v] w fun e w' => (mayN p xs = false ∧ e = .returned (.tuple #[.pointer none, .int .i64 1]) ∧ Below w.heap.size w w') ∨ (mayN p xs = true ∧ ∃ n : Nat, p = (n : Int) ∧ NewP w n xs e w') := by
  by_cases hp : 1 ≤ p ∧ p ≤ 64
  · obtain ⟨n, rfl⟩ : ∃ n : Nat, p = (n : Int) := ⟨p.toNat, by omega⟩
    refine (new_in n (by omega) (by omega) v xs hx w h).mono ?_
    rintro e w' (h | ⟨h1, h2⟩)
    · exact .inl h
    · exact .inr ⟨h1, n, rfl, h2⟩
  · refine (new_out p v xs hp w).mono ?_
    rintro e w' ⟨h1, h2⟩
    exact .inl ⟨by unfold mayN; rw [show decide (1 ≤ p ∧ p ≤ 64) = false from by simpa using hp]; rfl, h1, h2⟩
theorem rdv_cut {w : World} {ao : Option Addr} {n cap : Nat} {xs : List Int} (h : RdV w (.slice ao n cap) (xs.map iv)) (hn : n = xs.length) (k : Nat) : RdV w (.slice ao (min n k) cap) ((xs.take k).map iv) := by
  subst hn
  have := h.short (min xs.length k) (Nat.min_le_left _ _)
  rw [← List.map_take] at this
  by_cases hk : k ≤ xs.length
  · rw [Nat.min_eq_right hk] at this ⊢; exact this
  · rw [Nat.min_eq_left (by omega), List.take_of_length_le (by omega)] at this; rw [Nat.min_eq_left (by omega), List.take_of_length_le (by omega)]; exact this
set_option maxRecDepth 100000 in
set_option maxHeartbeats 1000000 in
theorem ring2_any (p : Int) (v : Value) (xs : List Int) (w : World) (h : RdV w v (xs.map iv)) :
    Calls Try.prog 6 #[.int .i64 p, v] w (Ring2P w p (xs.take 80)) := by
  have hh := h
  obtain ⟨ao, cap, hv, hc, hm, _⟩ := rdv_open hh
  subst hv
  have h80 := rdv_cut h rfl 80
  have hl80 : (xs.take 80).length ≤ 80 := by simp; omega
  have hmin : min xs.length 80 = (xs.take 80).length := by simp [Nat.min_comm]
  rw [hmin] at h80
  obtain ⟨X, hX⟩ : ∃ X, X = xs.take 80 := ⟨_, rfl⟩
  rw [← hX] at h80 hl80 hmin ⊢
  have HX := Lib.hid hX
  have Be : Below w.heap.size w (w.alloc (.cells #[.int .i64 0, .slice none 0 0, .slice none 0 0] 27)) := (Below.refl _ _).alloc (Nat.le_refl _) _
  have q0 := heap_alloc_new w (.cells #[.int .i64 0, .slice none 0 0, .slice none 0 0] 27)
  have NW := new_any p (.slice ao X.length cap) X (by omega) _ (h80.below Be (Nat.le_refl _))
  obtain ⟨Wb, hW⟩ : ∃ Wb, Wb = w.alloc (.cells #[.int .i64 0, .slice none 0 0, .slice none 0 0] 27) := ⟨_, rfl⟩
  rw [← hW] at Be NW q0
  have H80 := Lib.hid h80
  have lW := lt_of_block q0
  clear hX h h80 hh
  have TAILP : True := trivial
  by_cases h8 : xs.length ≤ 80
  · rw [Nat.min_eq_left h8] at hmin
    have h8' : ¬ (80 : Int) < (xs.length : Int) := by omega
    rw [hmin] at h8' hc ⊢
    clear h8 hmin
    go_enter Try.func6, Try.ntmps6
    go_wp2_with fail
    try rw [← hW]
    refine NW.mono ?_
    rintro e w1 (⟨hmay, rfl, g⟩ | ⟨hmay, n, hn, g, B, M, rfl, rg⟩)
    · have q1 := (g.block _ (lt_of_block q0)).trans q0
      have f1 := cells3 q1
      have f2 := block_frozen q1
      have HMy := Lib.hid hmay
      clear hmay
      go_wp2_with fail
      have fin := r2_fin (V := w1) (n := p) (x := .slice ao X.length cap) (y := .slice none 0 0) (chain Be g) q1
      obtain ⟨u1, u2, u3⟩ := cells3 fin.1
      exact bodyPost_ret (v := .tuple #[.pointer none, .agg #[.int .i64 p, .slice ao X.length cap, .slice none 0 0], .bool false]) (by simp [results, Try.results6, go_sem, u1, u2, u3]) rfl ⟨fin.2, _, H80.out, .inl ⟨HMy.out, rfl⟩⟩
    · have q1 := (g.block _ (lt_of_block q0)).trans q0
      have f1 := cells3 q1
      have f2 := block_frozen q1
      have HMy := Lib.hid hmay
      have HN := Lib.hid hn
      have RGG := Lib.hid rg
      have hB := rg.bB
      clear hmay hn rg
      go_wp2_with fail
      have fin := r2_fin (V := w1) (n := p) (x := .slice ao X.length cap) (y := .slice none 0 0) (chain Be g) q1
      obtain ⟨u1, u2, u3⟩ := cells3 fin.1
      exact bodyPost_ret (v := .tuple #[.pointer (some ⟨B, 0, none⟩), .agg #[.int .i64 p, .slice ao X.length cap, .slice none 0 0], .bool true]) (by simp [results, Try.results6, go_sem, u1, u2, u3]) rfl ⟨fin.2, _, H80.out, .inr ⟨HMy.out, B, M, n, Wb.heap.size, HN.out, Nat.le_of_lt lW, by have := g.size; simpa using this, rfl, RGG.out.kept (fun k hk hown => have hne : k ≠ w.heap.size := (fun e => rg_far RGG.out (e ▸ lW) hown); (set_old hne).trans ((set_old hne).trans (set_old hne)))⟩⟩
  · rw [Nat.min_eq_right (by omega)] at hmin
    have h8' : (80 : Int) < (xs.length : Int) := by omega
    rw [← hmin] at NW H80
    have HM := Lib.hid hmin
    clear hmin h8
    go_enter Try.func6, Try.ntmps6
    go_wp2_with fail
    try rw [← hW]
    refine NW.mono ?_
    rintro e w1 (⟨hmay, rfl, g⟩ | ⟨hmay, n, hn, g, B, M, rfl, rg⟩)
    · have q1 := (g.block _ (lt_of_block q0)).trans q0
      have f1 := cells3 q1
      have f2 := block_frozen q1
      have HMy := Lib.hid hmay
      clear hmay
      go_wp2_with fail
      have fin := r2_fin (V := w1) (n := p) (x := .slice ao 80 cap) (y := .slice none 0 0) (chain Be g) q1
      obtain ⟨u1, u2, u3⟩ := cells3 fin.1
      exact bodyPost_ret (v := .tuple #[.pointer none, .agg #[.int .i64 p, .slice ao 80 cap, .slice none 0 0], .bool false]) (by simp [results, Try.results6, go_sem, u1, u2, u3]) rfl ⟨fin.2, _, H80.out, .inl ⟨HMy.out, rfl⟩⟩
    · have q1 := (g.block _ (lt_of_block q0)).trans q0
      have f1 := cells3 q1
      have f2 := block_frozen q1
      have HMy := Lib.hid hmay
      have HN := Lib.hid hn
      have RGG := Lib.hid rg
      have hB := rg.bB
      clear hmay hn rg
      go_wp2_with fail
      have fin := r2_fin (V := w1) (n := p) (x := .slice ao 80 cap) (y := .slice none 0 0) (chain Be g) q1
      obtain ⟨u1, u2, u3⟩ := cells3 fin.1
      exact bodyPost_ret (v := .tuple #[.pointer (some ⟨B, 0, none⟩), .agg #[.int .i64 p, .slice ao 80 cap, .slice none 0 0], .bool true]) (by simp [results, Try.results6, go_sem, u1, u2, u3]) rfl ⟨fin.2, _, H80.out, .inr ⟨HMy.out, B, M, n, Wb.heap.size, HN.out, Nat.le_of_lt lW, by have := g.size; simpa using this, rfl, RGG.out.kept (fun k hk hown => have hne : k ≠ w.heap.size := (fun e => rg_far RGG.out (e ▸ lW) hown); (set_old hne).trans ((set_old hne).trans (set_old hne)))⟩⟩
end Go.Proofs.Ytojjpnkdblaidaa
