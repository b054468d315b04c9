/- Stores: the document's in, Weight, May. Written by wip/tools/gen13d.py. -/
import Derived.Test.YtbdfcgffkonbiaaDoorQST25
import Derived.Test.YtbdfcgffkonbiaaDoorQST21
namespace Go.Proofs.YtbdfcgffkonbiaaDoor
open Go Go.RowKit
set_option linter.unusedVariables false
set_option linter.unusedSimpArgs false
theorem refIn13_any (n m : Int) (w : World) : Calls Tryd.prog 57 #[.int .i64 n, .int .i64 m] w fun e w' => e = .returned (.bool (rngB n m)) ∧ w = w' := by
  by_cases h1 : 0 ≤ n
  · have t1 : decide (0 ≤ n) = true := by simpa using h1
    by_cases h2 : n ≤ m
    · have t2 : decide (n ≤ m) = true := by simpa using h2
      rw [show rngB n m = true by unfold rngB; rw [t1, t2]; rfl]
      go_enter Tryd.func57, Tryd.ntmps57
      go_wp2_with fail
      go_ret
      exact ⟨rfl, rfl⟩
    · have t2 : decide (n ≤ m) = false := by simpa using h2
      rw [show rngB n m = false by unfold rngB; rw [t1, t2]; rfl]
      go_enter Tryd.func57, Tryd.ntmps57
      go_wp2_with fail
      go_ret
      exact ⟨rfl, rfl⟩
  · have t1 : decide (0 ≤ n) = false := by simpa using h1
    rw [show rngB n m = false by unfold rngB; rw [t1]; rfl]
    go_enter Tryd.func57, Tryd.ntmps57
    go_wp2_with fail
    go_ret
    exact ⟨rfl, rfl⟩
set_option maxRecDepth 100000 in
set_option maxHeartbeats 1000000 in
theorem refWeight13_any (cs : Array Value) (lv : Nat → List It) (vs : Nat → Int) (w : World) (h : RdT w cs lv vs) (hsz : SzT lv) (hwf : WfT lv) (h100 : ∀ b, b < 16 → (lv b).length ≤ 100) (hm : mayTs lv vs 16 = true) :
    Calls Tryd.prog 22 #[.agg cs] w fun e w' => e = .returned (.int .i64 (wtL (allN lv 16) : Int)) ∧ Below w.heap.size w w' := by
  have hs := infoTc h.size
  have q1 := heap_alloc_new w (.cells cs 26)
  have bel := (Below.refl w.heap.size w).alloc (Nat.le_refl _) (.cells cs 26)
  obtain ⟨W1, hW1⟩ : ∃ W1, W1 = w.alloc (.cells cs 26) := ⟨_, rfl⟩
  rw [← hW1] at q1 bel
  have AL0 := all_any cs lv vs W1 (h.below bel (Nat.le_refl _)) h100
  obtain ⟨L, hL⟩ : ∃ L, L = allN lv 16 := ⟨_, rfl⟩
  rw [← hL] at AL0 ⊢
  have AL := Lib.hid AL0
  have L16 : L.length ≤ 1600 := by rw [hL]; exact allN_len 16 h100
  have HME := Lib.hid (show ∀ x ∈ L, mayI x = true ∧ x.v.s.length ≤ maxLen ∧ I64 x.v.i from fun x hx => by
    rw [hL] at hx
    obtain ⟨b, hb, hx⟩ := mem_allN hx
    exact ⟨isL_may (isT hm hb) x hx, (hsz b hb x hx).2, hwf b hb x hx⟩)
  have BW := Lib.hid bel
  clear h hsz hwf h100 hm hL AL0 bel
  subst hW1
  go_enter Tryd.func22, Tryd.ntmps22
  go_wp2_with ((with_reducible refine wpList_load_row (o := ⟨some 6, _, _, _, _, _⟩) rfl 26 (.tmp 1) rfl _ rfl _ cs (0, 0) _ q1 Tryd.underlying26 rfl hs ?_))
  refine AL.out.mono ?_
  rintro e v7 ⟨vl, rfl, own, g⟩
  have hS := Below.refl v7.heap.size v7
  have BL := Lib.hid (chain BW.out g)
  clear g q1
  have RDL0 := OwnI.rd (w := v7) own
  obtain ⟨al, cl, rfl, hc1, hc2, RDL1⟩ := RdK.open RDL0
  have RDL := Lib.hid (show RdI v7 (.slice al L.length cl) L from RDL1)
  clear RDL0 RDL1 own
  go_wp2_with fail
  go_loopw [3, 5] (fun z i wr => ∃ (j s : Nat), j ≤ L.length ∧ i = .int .i64 (j : Int) ∧ z = .int .i64 (s : Int) ∧ s ≤ 300 * j ∧ Hid (s = wtL (L.take j)) ∧ Below v7.heap.size v7 wr) (fun _ i _ => 2000 - (intOf i).toNat)
  case atStart => exact ⟨0, 0, Nat.zero_le _, rfl, rfl, Nat.le_refl _, rfl, Below.refl _ _⟩
  case round =>
    obtain ⟨j, s, hj, rfl, rfl, hs, HACC, bel⟩ := hrel
    by_cases hlt : j < L.length
    · have hr := RDL.out
      have R1 := hr.below bel (Nat.le_refl _)
      obtain ⟨b, off, rfl, hb, c0, c1, c2, c3, c4⟩ := rdi_cells R1 j hlt
      obtain ⟨x, hx⟩ : ∃ x, x = L[j]'hlt := ⟨_, rfl⟩
      rw [← hx] at c0 c1 c2 c3 c4
      obtain ⟨hmx, hxs, hxi⟩ := HME.out x (by rw [hx]; exact List.getElem_mem _)
      have hxk := may_key hmx
      have hmv := may_v hmx
      have hmx2 := encL_max x.v
      obtain ⟨n1, hn1⟩ : ∃ n1, n1 = x.key.length := ⟨_, rfl⟩
      obtain ⟨n2, hn2⟩ : ∃ n2, n2 = (V7.encL x.v).length := ⟨_, rfl⟩
      have z9 : (str x.key).size = n1 := by rw [hn1]; exact str_size _
      have HA2 := Lib.hid (show s + (n1 + n2) = wtL (L.take (j + 1)) by rw [wt_succ hlt, ← HACC.out, ← hx, hn1, hn2]; rfl)
      rw [← hn1] at hxk
      rw [← hn2] at hmx2
      have EN := Lib.hid (show ∀ w, Calls Tryd.prog 62 #[.agg #[.int .i64 x.v.k, .int .i64 x.v.i, .string (str x.v.s)]] w fun e w' => ∃ s9, e = .returned (.string s9) ∧ s9.size = n2 ∧ Below w.heap.size w w' by
        intro w
        refine (V7.refEncode_any x.v.k x.v.i x.v.s w hxs hxi hmv).mono ?_
        rintro e w9 ⟨rfl, b9⟩
        exact ⟨_, rfl, by rw [str_size, hn2], b9⟩)
      have E1 := Lib.hid (show IntKind.i64.wrap ((n1 : Int) + (n2 : Int)) = ((n1 + n2 : Nat) : Int) by rw [IntKind.wrap_i64]; omega)
      have E2 := Lib.hid (show IntKind.i64.wrap ((s : Int) + ((n1 + n2 : Nat) : Int)) = ((s + (n1 + n2) : Nat) : Int) by rw [IntKind.wrap_i64]; omega)
      have hs2 : s + (n1 + n2) ≤ 300 * (j + 1) := by omega
      clear hx hn1 hn2 hr R1 hxs hxi hmx hmv
      go_wp2_with fail
      refine g_start (by kernel_rfl) ?_
      refine g_take (i := 0) (d := (some 14)) (v := ?_) rfl rfl (by kernel_rfl) (fun _ _ _ h => h) (by rfl) (fun w' hb' => ?_) ?_
      rotate_left
      · (try go_simp); (try with_reducible rfl)
      try simp only [Act.put, List.setIfInBounds_toArray, List.set_cons_zero, List.set_cons_succ]
      refine g_take (i := 1) (d := (some 15)) (v := ?_) rfl rfl (by kernel_rfl) (fun _ _ _ h => h) (by rfl) (fun w' hb' => ?_) ?_
      rotate_left
      · (try go_simp); (try with_reducible rfl)
      try simp only [Act.put, List.setIfInBounds_toArray, List.set_cons_zero, List.set_cons_succ]
      refine g_take (i := 2) (d := (some 16)) (v := ?_) rfl rfl (by kernel_rfl) (fun _ _ _ h => h) (by rfl) (fun w' hb' => ?_) ?_
      rotate_left
      · (try go_simp); (try with_reducible rfl)
      try simp only [Act.put, List.setIfInBounds_toArray, List.set_cons_zero, List.set_cons_succ]
      refine g_take (i := 3) (d := (some 17)) (v := ?_) rfl rfl (by kernel_rfl) (fun _ _ _ h => h) (by rfl) (fun w' hb' => ?_) ?_
      rotate_left
      · (try go_simp); (try with_reducible rfl)
      try simp only [Act.put, List.setIfInBounds_toArray, List.set_cons_zero, List.set_cons_succ]
      refine g_take (i := 4) (d := (some 18)) (v := ?_) rfl rfl (by kernel_rfl) (fun _ _ _ h => h) (by rfl) (fun w' hb' => ?_) ?_
      rotate_left
      · (try go_simp); (try with_reducible rfl)
      try simp only [Act.put, List.setIfInBounds_toArray, List.set_cons_zero, List.set_cons_succ]
      refine g_take (i := 5) (d := (some 19)) (v := ?_) rfl rfl (by kernel_rfl) (fun _ _ _ h => h) (by rfl) (fun w' hb' => ?_) ?_
      rotate_left
      · have c0 := (hb'.cell (p := ⟨b, off + j * 5, none⟩) hb).trans c0; have c1 := (hb'.cell (p := ⟨b, off + j * 5 + 1, none⟩) hb).trans c1; have c2 := (hb'.cell (p := ⟨b, off + j * 5 + 2, none⟩) hb).trans c2; have c3 := (hb'.cell (p := ⟨b, off + j * 5 + 3, none⟩) hb).trans c3; have c4 := (hb'.cell (p := ⟨b, off + j * 5 + 4, none⟩) hb).trans c4; (try go_simp); (try with_reducible rfl)
      try simp only [Act.put, List.setIfInBounds_toArray, List.set_cons_zero, List.set_cons_succ]
      refine g_take (i := 6) (d := (some 20)) (v := ?_) rfl rfl (by kernel_rfl) (fun _ _ _ h => h) (by rfl) (fun w' hb' => ?_) ?_
      rotate_left
      · (try go_simp); (try with_reducible rfl)
      try simp only [Act.put, List.setIfInBounds_toArray, List.set_cons_zero, List.set_cons_succ]
      refine g_take (i := 7) (d := (some 21)) (v := ?_) rfl rfl (by kernel_rfl) (fun _ _ _ h => h) (by rfl) (fun w' hb' => ?_) ?_
      rotate_left
      · (try go_simp); (try with_reducible rfl)
      try simp only [Act.put, List.setIfInBounds_toArray, List.set_cons_zero, List.set_cons_succ]
      refine g_take (i := 8) (d := (some 22)) (v := ?_) rfl rfl (by kernel_rfl) (fun _ _ _ h => h) (by rfl) (fun w' hb' => ?_) ?_
      rotate_left
      · (try go_simp); (try with_reducible rfl)
      try simp only [Act.put, List.setIfInBounds_toArray, List.set_cons_zero, List.set_cons_succ]
      refine g_take (i := 9) (d := (some 23)) (v := ?_) rfl rfl (by kernel_rfl) (fun _ _ _ h => h) (by rfl) (fun w' hb' => ?_) ?_
      rotate_left
      · (try go_simp); (try with_reducible rfl)
      try simp only [Act.put, List.setIfInBounds_toArray, List.set_cons_zero, List.set_cons_succ]
      refine g_take (i := 10) (d := (some 24)) (v := ?_) rfl rfl (by kernel_rfl) (fun _ _ _ h => h) (by rfl) (fun w' hb' => ?_) ?_
      rotate_left
      · (try go_simp); (try with_reducible rfl)
      try simp only [Act.put, List.setIfInBounds_toArray, List.set_cons_zero, List.set_cons_succ]
      refine g_take (i := 11) (d := (some 25)) (v := ?_) rfl rfl (by kernel_rfl) (fun _ _ _ h => h) (by rfl) (fun w' hb' => ?_) ?_
      rotate_left
      · have c0 := (hb'.cell (p := ⟨b, off + j * 5, none⟩) hb).trans c0; have c1 := (hb'.cell (p := ⟨b, off + j * 5 + 1, none⟩) hb).trans c1; have c2 := (hb'.cell (p := ⟨b, off + j * 5 + 2, none⟩) hb).trans c2; have c3 := (hb'.cell (p := ⟨b, off + j * 5 + 3, none⟩) hb).trans c3; have c4 := (hb'.cell (p := ⟨b, off + j * 5 + 4, none⟩) hb).trans c4; (try go_simp); (try with_reducible rfl)
      try simp only [Act.put, List.setIfInBounds_toArray, List.set_cons_zero, List.set_cons_succ]
      refine g_run (i := 12) rfl (by kernel_rfl) (by rfl) (fun K hK => ?_)
      go_simp; refine (EN.out _).mono ?_; rintro e w9 ⟨s9, rfl, hs9, b9⟩; have l9 : (s9.size : Int) = (n2 : Int) := (by rw [hs9]); refine hK _ _ ⟨b9, ?_⟩; clear hK K
      try simp only [Act.put, List.setIfInBounds_toArray, List.set_cons_zero, List.set_cons_succ]
      refine g_take (i := 13) (d := (some 27)) (v := ?_) rfl rfl (by kernel_rfl) (fun _ _ _ h => h) (by rfl) (fun w' hb' => ?_) ?_
      rotate_left
      · (try go_simp); (try with_reducible rfl)
      try simp only [Act.put, List.setIfInBounds_toArray, List.set_cons_zero, List.set_cons_succ]
      refine g_take (i := 14) (d := (some 28)) (v := ?_) rfl rfl (by kernel_rfl) (fun _ _ _ h => h) (by rfl) (fun w' hb' => ?_) ?_
      rotate_left
      · have e1 := E1.out; (try go_simp); (try with_reducible rfl)
      try simp only [Act.put, List.setIfInBounds_toArray, List.set_cons_zero, List.set_cons_succ]
      refine g_take (i := 15) (d := (some 29)) (v := ?_) rfl rfl (by kernel_rfl) (fun _ _ _ h => h) (by rfl) (fun w' hb' => ?_) ?_
      rotate_left
      · have e1 := E1.out; have e2 := E2.out; (try go_simp); (try with_reducible rfl)
      try simp only [Act.put, List.setIfInBounds_toArray, List.set_cons_zero, List.set_cons_succ]
      refine g_take (i := 16) (d := (some 3)) (v := ?_) rfl rfl (by kernel_rfl) (fun _ _ _ h => h) (by rfl) (fun w' hb' => ?_) ?_
      rotate_left
      · (try go_simp); (try with_reducible rfl)
      try simp only [Act.put, List.setIfInBounds_toArray, List.set_cons_zero, List.set_cons_succ]
      refine g_done (by kernel_rfl) ?_
      go_wp2_with fail
      exact ⟨⟨j + 1, s + (n1 + n2), by omega, by push_cast; rfl, by have h := E2.out; push_cast at h ⊢; rw [h], hs2, HA2, chain (bel.drew) b9⟩, by simp [intOf]; omega⟩
    · obtain rfl : j = L.length := by omega
      have e9 := Lib.hid (show s = wtL L by rw [HACC.out, List.take_length])
      go_wp2_with fail
      go_ret
      exact ⟨by rw [← e9.out]; rfl, chain BL.out bel⟩
theorem own_count {w : World} {base : Nat} {e : TypeId} {k : Nat} {a : Option Addr} {n c m : Nat} {xs : List Value} (h : w.ownsRow base e k (.slice a n c) m xs) : n = m := by
  rcases h.2 with ⟨h1, h2⟩ | ⟨g, cap, cur, h1, _⟩
  · cases h1; exact h2.symm
  · cases h1; rfl
set_option maxRecDepth 100000 in
set_option maxHeartbeats 2000000 in
theorem refMay13_any (cs : Array Value) (s : St) (w : World) (tab : TabAt w) (h : RdS w cs s) (hsz : SzT s.lv) (hwf : WfT s.lv) (h100 : ∀ b, b < 16 → (s.lv b).length ≤ 100) :
    Calls Tryd.prog 18 #[.agg cs] w fun e w' => e = .returned (.bool (mayS s)) ∧ Below w.heap.size w w' := by
  have hs := h.size
  have q1 := heap_alloc_new w (.cells cs 28)
  have bel := (Below.refl w.heap.size w).alloc (Nat.le_refl _) (.cells cs 28)
  obtain ⟨W1, hW1⟩ : ∃ W1, W1 = w.alloc (.cells cs 28) := ⟨_, rfl⟩
  rw [← hW1] at q1 bel
  have H32 := Lib.hid h.ver
  have H33 := Lib.hid h.by_
  have H34 := Lib.hid h.ke
  have HV := Lib.hid (fun k (hk : k < 16) => (show cs[16 + k]? = some (.int .i64 (s.vs k)) by rw [← tC_at (by omega)]; exact h.tr.ver k hk))
  have MY := refTmay_any (tC cs) s.lv s.vs W1 (tab.below bel) (h.tr.below bel (Nat.le_refl _)) hsz h100
  have RI := Lib.hid refIn13_any
  have BW := Lib.hid bel
  have hS := Below.refl W1.heap.size W1
  have WT0 := fun (hm : mayTs s.lv s.vs 16 = true) W (g : Below W1.heap.size W1 W) => refWeight13_any (tC cs) s.lv s.vs W (h.tr.below (chain bel g) (Nat.le_refl _)) hsz hwf h100 hm
  have AL0 := fun W (g : Below W1.heap.size W1 W) => all_any (tC cs) s.lv s.vs W (h.tr.below (chain bel g) (Nat.le_refl _)) h100
  obtain ⟨L, hL⟩ : ∃ L, L = allN s.lv 16 := ⟨_, rfl⟩
  rw [← hL] at AL0 WT0
  have L16 : L.length ≤ 1600 := by rw [hL]; exact allN_len 16 h100
  obtain ⟨R, hR⟩ : ∃ R, R = mayS s := ⟨_, rfl⟩
  rw [← hR]
  obtain ⟨FB, hFB⟩ : ∃ B, B = fitsB s := ⟨_, rfl⟩
  have HR0 : R = (rngB s.ver 2147483647 && rngB s.by_ 65536 && rngB s.ke 1024 && versB s.vs s.ver 16 && mayTs s.lv s.vs 16 && FB) := by rw [hR, hFB]; rfl
  have HF0 : mayTs s.lv s.vs 16 = true → FB = (decide ((wtL L : Int) ≤ s.by_) && decide ((L.length : Int) ≤ s.ke)) := fun hm => by rw [hFB, hL]; unfold fitsB; rw [sumT_wt hm, sumT_len hm]
  clear h hsz hwf h100 tab bel hL hR hFB
  obtain ⟨lv, vs, V, B, K9⟩ := s
  simp only [] at H32 H33 H34 HR0 HV MY WT0 AL0 HF0
  have HR := Lib.hid HR0
  have AL := Lib.hid AL0
  have HF1 := Lib.hid HF0
  have WT1 := Lib.hid WT0
  clear HR0 AL0 HF0 WT0
  cases hm : mayTs lv vs 16 with
  | false =>
    have E := Lib.hid (show R = false by rw [HR.out, hm]; simp)
    rw [hm] at MY
    clear hm
    subst hW1
    go_enter Tryd.func18, Tryd.ntmps18
    go_wp2_with ((with_reducible refine wpList_load_part (o := ⟨some 5, _, _, _, _, _⟩) rfl 26 (.tmp 4) rfl _ 0 rfl (tC cs) _ (tC_range q1) Tryd.underlying26 rfl (tC_infoA hs) ?_))
    refine MY.mono ?_
    rintro e w2 ⟨rfl, g⟩
    have hS := chain hS g
    have q1 := (g.block _ (lt_of_block q1)).trans q1
    have c32 := (block_cell q1 32).trans H32.out
    have c33 := (block_cell q1 33).trans H33.out
    have c34 := (block_cell q1 34).trans H34.out
    clear MY g
    go_wp2_with fail
    go_ret
    exact ⟨by rw [E.out]; rfl, chain BW.out hS⟩
  | true =>
    have E0 := Lib.hid (show R = (rngB V 2147483647 && rngB B 65536 && rngB K9 1024 && versB vs V 16 && FB) by rw [HR.out, hm]; simp)
    have HF := Lib.hid (HF1.out hm)
    have WT := Lib.hid (WT1.out hm)
    rw [hm] at MY
    clear hm
    cases r1 : rngB V 2147483647 with
    | false =>
      have E := Lib.hid (show R = false by rw [E0.out, r1]; simp)
      subst hW1
      go_enter Tryd.func18, Tryd.ntmps18
      go_wp2_with ((with_reducible refine wpList_load_part (o := ⟨some 5, _, _, _, _, _⟩) rfl 26 (.tmp 4) rfl _ 0 rfl (tC cs) _ (tC_range q1) Tryd.underlying26 rfl (tC_infoA hs) ?_))
      refine MY.mono ?_
      rintro e w2 ⟨rfl, g⟩
      have hS := chain hS g
      have q1 := (g.block _ (lt_of_block q1)).trans q1
      have c32 := (block_cell q1 32).trans H32.out
      have c33 := (block_cell q1 33).trans H33.out
      have c34 := (block_cell q1 34).trans H34.out
      clear MY g
      go_wp2_with ((with_reducible refine (RI.out _ _ _).mono ?_); rintro e w9 ⟨rfl, rfl⟩)
      go_ret
      exact ⟨by rw [E.out]; rfl, chain BW.out hS⟩
    | true =>
      cases r2 : rngB B 65536 with
      | false =>
        have E := Lib.hid (show R = false by rw [E0.out, r2]; simp)
        subst hW1
        go_enter Tryd.func18, Tryd.ntmps18
        go_wp2_with ((with_reducible refine wpList_load_part (o := ⟨some 5, _, _, _, _, _⟩) rfl 26 (.tmp 4) rfl _ 0 rfl (tC cs) _ (tC_range q1) Tryd.underlying26 rfl (tC_infoA hs) ?_))
        refine MY.mono ?_
        rintro e w2 ⟨rfl, g⟩
        have hS := chain hS g
        have q1 := (g.block _ (lt_of_block q1)).trans q1
        have c32 := (block_cell q1 32).trans H32.out
        have c33 := (block_cell q1 33).trans H33.out
        have c34 := (block_cell q1 34).trans H34.out
        clear MY g
        go_wp2_with ((with_reducible refine (RI.out _ _ _).mono ?_); rintro e w9 ⟨rfl, rfl⟩)
        go_ret
        exact ⟨by rw [E.out]; rfl, chain BW.out hS⟩
      | true =>
        cases r3 : rngB K9 1024 with
        | false =>
          have E := Lib.hid (show R = false by rw [E0.out, r3]; simp)
          subst hW1
          go_enter Tryd.func18, Tryd.ntmps18
          go_wp2_with ((with_reducible refine wpList_load_part (o := ⟨some 5, _, _, _, _, _⟩) rfl 26 (.tmp 4) rfl _ 0 rfl (tC cs) _ (tC_range q1) Tryd.underlying26 rfl (tC_infoA hs) ?_))
          refine MY.mono ?_
          rintro e w2 ⟨rfl, g⟩
          have hS := chain hS g
          have q1 := (g.block _ (lt_of_block q1)).trans q1
          have c32 := (block_cell q1 32).trans H32.out
          have c33 := (block_cell q1 33).trans H33.out
          have c34 := (block_cell q1 34).trans H34.out
          clear MY g
          go_wp2_with ((with_reducible refine (RI.out _ _ _).mono ?_); rintro e w9 ⟨rfl, rfl⟩)
          go_ret
          exact ⟨by rw [E.out]; rfl, chain BW.out hS⟩
        | true =>
          have E1 := Lib.hid (show R = (versB vs V 16 && FB) by rw [E0.out, r1, r2, r3]; simp)
          subst hW1
          go_enter Tryd.func18, Tryd.ntmps18
          go_wp2_with ((with_reducible refine wpList_load_part (o := ⟨some 5, _, _, _, _, _⟩) rfl 26 (.tmp 4) rfl _ 0 rfl (tC cs) _ (tC_range q1) Tryd.underlying26 rfl (tC_infoA hs) ?_))
          refine MY.mono ?_
          rintro e w2 ⟨rfl, g⟩
          have hS := chain hS g
          have q1 := (g.block _ (lt_of_block q1)).trans q1
          have c32 := (block_cell q1 32).trans H32.out
          have c33 := (block_cell q1 33).trans H33.out
          have c34 := (block_cell q1 34).trans H34.out
          clear MY g
          go_wp2_with ((with_reducible refine (RI.out _ _ _).mono ?_); rintro e w9 ⟨rfl, rfl⟩)
          clear r1 r2 r3 c32 c33 c34
          go_loopw [3] (fun i wr => ∃ k : Nat, k ≤ 16 ∧ i = .int .i64 (k : Int) ∧ Hid (versB vs V k = true) ∧ Below w2.heap.size w2 wr) (fun i _ => 20 - (intOf i).toNat)
          case atStart => exact ⟨0, Nat.zero_le _, rfl, Lib.hid rfl, Below.refl _ _⟩
          case round =>
            obtain ⟨k, hk, rfl, HA, bl⟩ := hrel
            have hS := chain hS bl
            have q1 := (bl.block _ (lt_of_block q1)).trans q1
            by_cases hlt : k < 16
            · have HVk := Lib.hid (HV.out k hlt)
              by_cases hv : V < vs k
              · have tv : decide (V < vs k) = true := decide_eq_true hv
                have E := Lib.hid (show R = false by rw [E1.out, versB_no hlt (by omega)]; rfl)
                go_wp2_with fail
                refine g_start (by kernel_rfl) ?_
                refine g_take (i := 0) (d := (some 30)) (v := ?_) rfl rfl (by kernel_rfl) (fun _ _ _ h => h) (by rfl) (fun w' hb' => ?_) ?_
                rotate_left
                · (try go_simp); (try with_reducible rfl)
                try simp only [Act.put, List.setIfInBounds_toArray, List.set_cons_zero, List.set_cons_succ]
                refine g_take (i := 1) (d := (some 31)) (v := ?_) rfl rfl (by kernel_rfl) (fun _ _ _ h => h) (by rfl) (fun w' hb' => ?_) ?_
                rotate_left
                · (try go_simp); (try with_reducible rfl)
                try simp only [Act.put, List.setIfInBounds_toArray, List.set_cons_zero, List.set_cons_succ]
                refine g_take (i := 2) (d := (some 32)) (v := ?_) rfl rfl (by kernel_rfl) (fun _ _ _ h => h) (by rfl) (fun w' hb' => ?_) ?_
                rotate_left
                · (try go_simp); (try with_reducible rfl)
                try simp only [Act.put, List.setIfInBounds_toArray, List.set_cons_zero, List.set_cons_succ]
                refine g_take (i := 3) (d := (some 33)) (v := ?_) rfl rfl (by kernel_rfl) (fun _ _ _ h => h) (by rfl) (fun w' hb' => ?_) ?_
                rotate_left
                · (try go_simp); (try with_reducible rfl)
                try simp only [Act.put, List.setIfInBounds_toArray, List.set_cons_zero, List.set_cons_succ]
                refine g_take (i := 4) (d := (some 34)) (v := ?_) rfl rfl (by kernel_rfl) (fun _ _ _ h => h) (by rfl) (fun w' hb' => ?_) ?_
                rotate_left
                · have zz := (block_cell ((hb'.block _ (lt_of_block q1)).trans q1) (16 + k)).trans HVk.out; have zy := zz; rw [Nat.add_comm 16 k] at zy; (try go_simp); (try with_reducible rfl)
                try simp only [Act.put, List.setIfInBounds_toArray, List.set_cons_zero, List.set_cons_succ]
                refine g_take (i := 5) (d := (some 35)) (v := ?_) rfl rfl (by kernel_rfl) (fun _ _ _ h => h) (by rfl) (fun w' hb' => ?_) ?_
                rotate_left
                · (try go_simp); (try with_reducible rfl)
                try simp only [Act.put, List.setIfInBounds_toArray, List.set_cons_zero, List.set_cons_succ]
                refine g_take (i := 6) (d := (some 36)) (v := ?_) rfl rfl (by kernel_rfl) (fun _ _ _ h => h) (by rfl) (fun w' hb' => ?_) ?_
                rotate_left
                · have zz := (block_cell ((hb'.block _ (lt_of_block q1)).trans q1) 32).trans H32.out; (try go_simp); (try with_reducible rfl)
                try simp only [Act.put, List.setIfInBounds_toArray, List.set_cons_zero, List.set_cons_succ]
                refine g_take (i := 7) (d := (some 37)) (v := ?_) rfl rfl (by kernel_rfl) (fun _ _ _ h => h) (by rfl) (fun w' hb' => ?_) ?_
                rotate_left
                · (try go_simp); (try with_reducible rfl)
                try simp only [Act.put, List.setIfInBounds_toArray, List.set_cons_zero, List.set_cons_succ]
                refine g_done (by kernel_rfl) ?_
                go_wp2_with fail
                go_ret
                exact ⟨by rw [E.out]; rfl, (chain BW.out hS).drew⟩
              · have tv : decide (V < vs k) = false := decide_eq_false hv
                have HN := Lib.hid (show versB vs V (k + 1) = true by rw [versB_succ, HA.out]; simp; omega)
                go_wp2_with fail
                refine g_start (by kernel_rfl) ?_
                refine g_take (i := 0) (d := (some 30)) (v := ?_) rfl rfl (by kernel_rfl) (fun _ _ _ h => h) (by rfl) (fun w' hb' => ?_) ?_
                rotate_left
                · (try go_simp); (try with_reducible rfl)
                try simp only [Act.put, List.setIfInBounds_toArray, List.set_cons_zero, List.set_cons_succ]
                refine g_take (i := 1) (d := (some 31)) (v := ?_) rfl rfl (by kernel_rfl) (fun _ _ _ h => h) (by rfl) (fun w' hb' => ?_) ?_
                rotate_left
                · (try go_simp); (try with_reducible rfl)
                try simp only [Act.put, List.setIfInBounds_toArray, List.set_cons_zero, List.set_cons_succ]
                refine g_take (i := 2) (d := (some 32)) (v := ?_) rfl rfl (by kernel_rfl) (fun _ _ _ h => h) (by rfl) (fun w' hb' => ?_) ?_
                rotate_left
                · (try go_simp); (try with_reducible rfl)
                try simp only [Act.put, List.setIfInBounds_toArray, List.set_cons_zero, List.set_cons_succ]
                refine g_take (i := 3) (d := (some 33)) (v := ?_) rfl rfl (by kernel_rfl) (fun _ _ _ h => h) (by rfl) (fun w' hb' => ?_) ?_
                rotate_left
                · (try go_simp); (try with_reducible rfl)
                try simp only [Act.put, List.setIfInBounds_toArray, List.set_cons_zero, List.set_cons_succ]
                refine g_take (i := 4) (d := (some 34)) (v := ?_) rfl rfl (by kernel_rfl) (fun _ _ _ h => h) (by rfl) (fun w' hb' => ?_) ?_
                rotate_left
                · have zz := (block_cell ((hb'.block _ (lt_of_block q1)).trans q1) (16 + k)).trans HVk.out; have zy := zz; rw [Nat.add_comm 16 k] at zy; (try go_simp); (try with_reducible rfl)
                try simp only [Act.put, List.setIfInBounds_toArray, List.set_cons_zero, List.set_cons_succ]
                refine g_take (i := 5) (d := (some 35)) (v := ?_) rfl rfl (by kernel_rfl) (fun _ _ _ h => h) (by rfl) (fun w' hb' => ?_) ?_
                rotate_left
                · (try go_simp); (try with_reducible rfl)
                try simp only [Act.put, List.setIfInBounds_toArray, List.set_cons_zero, List.set_cons_succ]
                refine g_take (i := 6) (d := (some 36)) (v := ?_) rfl rfl (by kernel_rfl) (fun _ _ _ h => h) (by rfl) (fun w' hb' => ?_) ?_
                rotate_left
                · have zz := (block_cell ((hb'.block _ (lt_of_block q1)).trans q1) 32).trans H32.out; (try go_simp); (try with_reducible rfl)
                try simp only [Act.put, List.setIfInBounds_toArray, List.set_cons_zero, List.set_cons_succ]
                refine g_take (i := 7) (d := (some 37)) (v := ?_) rfl rfl (by kernel_rfl) (fun _ _ _ h => h) (by rfl) (fun w' hb' => ?_) ?_
                rotate_left
                · (try go_simp); (try with_reducible rfl)
                try simp only [Act.put, List.setIfInBounds_toArray, List.set_cons_zero, List.set_cons_succ]
                refine g_done (by kernel_rfl) ?_
                go_wp2_with fail
                exact ⟨⟨k + 1, by omega, by push_cast; rfl, HN, bl.drew⟩, by simp [intOf]; omega⟩
            · obtain rfl : k = 16 := by omega
              have E2 := Lib.hid (show R = FB by rw [E1.out, HA.out]; rfl)
              obtain ⟨N1, hN1⟩ : ∃ N, N = wtL L := ⟨_, rfl⟩
              have WT1 := WT.out
              have HF2 := HF.out
              rw [← hN1] at WT1 HF2
              have WT := Lib.hid WT1
              have HF := Lib.hid HF2
              clear WT1 HF2 hN1
              by_cases h1 : (N1 : Int) ≤ B
              · have t1 : decide ((N1 : Int) ≤ B) = true := decide_eq_true h1
                have E := Lib.hid (show R = decide ((L.length : Int) ≤ K9) by rw [E2.out, HF.out, t1]; rfl)
                go_wp2_with fail
                refine g_start (by kernel_rfl) ?_
                refine g_take (i := 0) (d := (some 38)) (v := ?_) rfl rfl (by kernel_rfl) (fun _ _ _ h => h) (by rfl) (fun w' hb' => ?_) ?_
                rotate_left
                · (try go_simp); (try with_reducible rfl)
                try simp only [Act.put, List.setIfInBounds_toArray, List.set_cons_zero, List.set_cons_succ]
                refine g_take (i := 1) (d := (some 39)) (v := ?_) rfl rfl (by kernel_rfl) (fun _ _ _ h => h) (by rfl) (fun w' hb' => ?_) ?_
                rotate_left
                · (refine load_partO_op _ _ (.tmp 38) ?_ ?_ (tC_range ((hb'.block _ (lt_of_block q1)).trans q1)) Tryd.underlying26 ?_ (tC_infoA hs) <;> rfl); (try go_simp); (try with_reducible rfl)
                try simp only [Act.put, List.setIfInBounds_toArray, List.set_cons_zero, List.set_cons_succ]
                refine g_take (i := 3) (d := (some 41)) (v := ?_) rfl rfl (by kernel_rfl) (fun _ _ _ h => h) (by rfl) (fun w' hb' => ?_) ?_
                rotate_left
                · (try go_simp); (try with_reducible rfl)
                try simp only [Act.put, List.setIfInBounds_toArray, List.set_cons_zero, List.set_cons_succ]
                refine g_take (i := 4) (d := (some 42)) (v := ?_) rfl rfl (by kernel_rfl) (fun _ _ _ h => h) (by rfl) (fun w' hb' => ?_) ?_
                rotate_left
                · have zz := (block_cell ((hb'.block _ (lt_of_block q1)).trans q1) 33).trans H33.out; (try go_simp); (try with_reducible rfl)
                try simp only [Act.put, List.setIfInBounds_toArray, List.set_cons_zero, List.set_cons_succ]
                refine g_run (i := 2) rfl (by kernel_rfl) (by rfl) (fun K hK => ?_)
                go_simp; refine (WT.out _ (Below.drew hS)).mono ?_; rintro e u2 ⟨rfl, gg⟩; have hS := chain (Below.drew hS) gg; have q1 := (gg.block _ (lt_of_block q1)).trans q1; refine hK _ _ ⟨gg, ?_⟩; clear hK K gg
                try simp only [Act.put, List.setIfInBounds_toArray, List.set_cons_zero, List.set_cons_succ]
                refine g_take (i := 5) (d := (some 43)) (v := ?_) rfl rfl (by kernel_rfl) (fun _ _ _ h => h) (by rfl) (fun w' hb' => ?_) ?_
                rotate_left
                · (try go_simp); (try with_reducible rfl)
                try simp only [Act.put, List.setIfInBounds_toArray, List.set_cons_zero, List.set_cons_succ]
                refine g_take (i := 6) (d := (some 44)) (v := ?_) rfl rfl (by kernel_rfl) (fun _ _ _ h => h) (by rfl) (fun w' hb' => ?_) ?_
                rotate_left
                · (try go_simp); (try with_reducible rfl)
                try simp only [Act.put, List.setIfInBounds_toArray, List.set_cons_zero, List.set_cons_succ]
                refine g_take (i := 7) (d := (some 45)) (v := ?_) rfl rfl (by kernel_rfl) (fun _ _ _ h => h) (by rfl) (fun w' hb' => ?_) ?_
                rotate_left
                · (try go_simp); (try with_reducible rfl)
                try simp only [Act.put, List.setIfInBounds_toArray, List.set_cons_zero, List.set_cons_succ]
                refine g_take (i := 8) (d := (some 46)) (v := ?_) rfl rfl (by kernel_rfl) (fun _ _ _ h => h) (by rfl) (fun w' hb' => ?_) ?_
                rotate_left
                · (refine load_partO_op _ _ (.tmp 45) ?_ ?_ (tC_range ((hb'.block _ (lt_of_block q1)).trans q1)) Tryd.underlying26 ?_ (tC_infoA hs) <;> rfl); (try go_simp); (try with_reducible rfl)
                try simp only [Act.put, List.setIfInBounds_toArray, List.set_cons_zero, List.set_cons_succ]
                refine g_take (i := 11) (d := (some 49)) (v := ?_) rfl rfl (by kernel_rfl) (fun _ _ _ h => h) (by rfl) (fun w' hb' => ?_) ?_
                rotate_left
                · (try go_simp); (try with_reducible rfl)
                try simp only [Act.put, List.setIfInBounds_toArray, List.set_cons_zero, List.set_cons_succ]
                refine g_take (i := 12) (d := (some 50)) (v := ?_) rfl rfl (by kernel_rfl) (fun _ _ _ h => h) (by rfl) (fun w' hb' => ?_) ?_
                rotate_left
                · have zz := (block_cell ((hb'.block _ (lt_of_block q1)).trans q1) 34).trans H34.out; (try go_simp); (try with_reducible rfl)
                try simp only [Act.put, List.setIfInBounds_toArray, List.set_cons_zero, List.set_cons_succ]
                refine g_run (i := 9) rfl (by kernel_rfl) (by rfl) (fun K hK => ?_)
                go_simp; refine (AL.out _ hS).mono ?_; rintro e u9 ⟨vl, rfl, own, gg⟩; obtain ⟨al, nl, cl, rfl⟩ := own_slice own; obtain rfl := own_count own; have hS := chain hS gg; have q1 := (gg.block _ (lt_of_block q1)).trans q1; refine hK _ _ ⟨gg, ?_⟩; clear hK K gg
                try simp only [Act.put, List.setIfInBounds_toArray, List.set_cons_zero, List.set_cons_succ]
                refine g_take (i := 10) (d := (some 48)) (v := ?_) rfl rfl (by kernel_rfl) (fun _ _ _ h => h) (by rfl) (fun w' hb' => ?_) ?_
                rotate_left
                · (try go_simp); (try with_reducible rfl)
                try simp only [Act.put, List.setIfInBounds_toArray, List.set_cons_zero, List.set_cons_succ]
                refine g_take (i := 13) (d := (some 51)) (v := ?_) rfl rfl (by kernel_rfl) (fun _ _ _ h => h) (by rfl) (fun w' hb' => ?_) ?_
                rotate_left
                · (try go_simp); (try with_reducible rfl)
                try simp only [Act.put, List.setIfInBounds_toArray, List.set_cons_zero, List.set_cons_succ]
                refine g_take (i := 14) (d := (some 52)) (v := ?_) rfl rfl (by kernel_rfl) (fun _ _ _ h => h) (by rfl) (fun w' hb' => ?_) ?_
                rotate_left
                · (try go_simp); (try with_reducible rfl)
                try simp only [Act.put, List.setIfInBounds_toArray, List.set_cons_zero, List.set_cons_succ]
                refine g_take (i := 15) (d := (some 2)) (v := ?_) rfl rfl (by kernel_rfl) (fun _ _ _ h => h) (by rfl) (fun w' hb' => ?_) ?_
                rotate_left
                · (try go_simp); (try with_reducible rfl)
                try simp only [Act.put, List.setIfInBounds_toArray, List.set_cons_zero, List.set_cons_succ]
                refine g_done (by kernel_rfl) ?_
                go_wp2_with fail
                go_ret
                exact ⟨by rw [E.out]; rfl, chain BW.out hS⟩
              · have t1 : decide ((N1 : Int) ≤ B) = false := decide_eq_false h1
                have E := Lib.hid (show R = false by rw [E2.out, HF.out, t1]; rfl)
                go_wp2_with fail
                refine g_start (by kernel_rfl) ?_
                refine g_take (i := 0) (d := (some 38)) (v := ?_) rfl rfl (by kernel_rfl) (fun _ _ _ h => h) (by rfl) (fun w' hb' => ?_) ?_
                rotate_left
                · (try go_simp); (try with_reducible rfl)
                try simp only [Act.put, List.setIfInBounds_toArray, List.set_cons_zero, List.set_cons_succ]
                refine g_take (i := 1) (d := (some 39)) (v := ?_) rfl rfl (by kernel_rfl) (fun _ _ _ h => h) (by rfl) (fun w' hb' => ?_) ?_
                rotate_left
                · (refine load_partO_op _ _ (.tmp 38) ?_ ?_ (tC_range ((hb'.block _ (lt_of_block q1)).trans q1)) Tryd.underlying26 ?_ (tC_infoA hs) <;> rfl); (try go_simp); (try with_reducible rfl)
                try simp only [Act.put, List.setIfInBounds_toArray, List.set_cons_zero, List.set_cons_succ]
                refine g_take (i := 3) (d := (some 41)) (v := ?_) rfl rfl (by kernel_rfl) (fun _ _ _ h => h) (by rfl) (fun w' hb' => ?_) ?_
                rotate_left
                · (try go_simp); (try with_reducible rfl)
                try simp only [Act.put, List.setIfInBounds_toArray, List.set_cons_zero, List.set_cons_succ]
                refine g_take (i := 4) (d := (some 42)) (v := ?_) rfl rfl (by kernel_rfl) (fun _ _ _ h => h) (by rfl) (fun w' hb' => ?_) ?_
                rotate_left
                · have zz := (block_cell ((hb'.block _ (lt_of_block q1)).trans q1) 33).trans H33.out; (try go_simp); (try with_reducible rfl)
                try simp only [Act.put, List.setIfInBounds_toArray, List.set_cons_zero, List.set_cons_succ]
                refine g_run (i := 2) rfl (by kernel_rfl) (by rfl) (fun K hK => ?_)
                go_simp; refine (WT.out _ (Below.drew hS)).mono ?_; rintro e u2 ⟨rfl, gg⟩; have hS := chain (Below.drew hS) gg; have q1 := (gg.block _ (lt_of_block q1)).trans q1; refine hK _ _ ⟨gg, ?_⟩; clear hK K gg
                try simp only [Act.put, List.setIfInBounds_toArray, List.set_cons_zero, List.set_cons_succ]
                refine g_take (i := 5) (d := (some 43)) (v := ?_) rfl rfl (by kernel_rfl) (fun _ _ _ h => h) (by rfl) (fun w' hb' => ?_) ?_
                rotate_left
                · (try go_simp); (try with_reducible rfl)
                try simp only [Act.put, List.setIfInBounds_toArray, List.set_cons_zero, List.set_cons_succ]
                refine g_take (i := 6) (d := (some 44)) (v := ?_) rfl rfl (by kernel_rfl) (fun _ _ _ h => h) (by rfl) (fun w' hb' => ?_) ?_
                rotate_left
                · (try go_simp); (try with_reducible rfl)
                try simp only [Act.put, List.setIfInBounds_toArray, List.set_cons_zero, List.set_cons_succ]
                refine g_skip (i := 7) (d := (some 45)) rfl rfl (by kernel_rfl) (fun _ _ _ h => h) (by rfl) ?_
                try simp only [Act.put, List.setIfInBounds_toArray, List.set_cons_zero, List.set_cons_succ]
                refine g_skip (i := 8) (d := (some 46)) rfl rfl (by kernel_rfl) (fun _ _ _ h => h) (by rfl) ?_
                try simp only [Act.put, List.setIfInBounds_toArray, List.set_cons_zero, List.set_cons_succ]
                refine g_skip (i := 9) (d := (some 47)) rfl rfl (by kernel_rfl) (fun _ _ _ h => h) (by rfl) ?_
                try simp only [Act.put, List.setIfInBounds_toArray, List.set_cons_zero, List.set_cons_succ]
                refine g_skip (i := 10) (d := (some 48)) rfl rfl (by kernel_rfl) (fun _ _ _ h => h) (by rfl) ?_
                try simp only [Act.put, List.setIfInBounds_toArray, List.set_cons_zero, List.set_cons_succ]
                refine g_skip (i := 11) (d := (some 49)) rfl rfl (by kernel_rfl) (fun _ _ _ h => h) (by rfl) ?_
                try simp only [Act.put, List.setIfInBounds_toArray, List.set_cons_zero, List.set_cons_succ]
                refine g_skip (i := 12) (d := (some 50)) rfl rfl (by kernel_rfl) (fun _ _ _ h => h) (by rfl) ?_
                try simp only [Act.put, List.setIfInBounds_toArray, List.set_cons_zero, List.set_cons_succ]
                refine g_skip (i := 13) (d := (some 51)) rfl rfl (by kernel_rfl) (fun _ _ _ h => h) (by rfl) ?_
                try simp only [Act.put, List.setIfInBounds_toArray, List.set_cons_zero, List.set_cons_succ]
                refine g_take (i := 14) (d := (some 52)) (v := ?_) rfl rfl (by kernel_rfl) (fun _ _ _ h => h) (by rfl) (fun w' hb' => ?_) ?_
                rotate_left
                · (try go_simp); (try with_reducible rfl)
                try simp only [Act.put, List.setIfInBounds_toArray, List.set_cons_zero, List.set_cons_succ]
                refine g_take (i := 15) (d := (some 2)) (v := ?_) rfl rfl (by kernel_rfl) (fun _ _ _ h => h) (by rfl) (fun w' hb' => ?_) ?_
                rotate_left
                · (try go_simp); (try with_reducible rfl)
                try simp only [Act.put, List.setIfInBounds_toArray, List.set_cons_zero, List.set_cons_succ]
                refine g_done (by kernel_rfl) ?_
                go_wp2_with fail
                go_ret
                exact ⟨by rw [E.out]; rfl, chain BW.out hS⟩
end Go.Proofs.YtbdfcgffkonbiaaDoor
