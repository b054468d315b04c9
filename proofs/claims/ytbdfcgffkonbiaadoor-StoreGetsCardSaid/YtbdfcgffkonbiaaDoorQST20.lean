/- Trunks: which buckets are unlike. Written by wip/tools/gen10i.py. -/
import Derived.Test.YtbdfcgffkonbiaaDoorQST19
import Derived.Deep.QuietTactic
import Derived.BigQuiet
namespace Go.Proofs.YtbdfcgffkonbiaaDoor
open Go Go.RowKit
set_option linter.unusedVariables false
set_option linter.unusedSimpArgs false
open Classical in
noncomputable def lsEq (l m : List It) : Bool := decide (l = m)
theorem lsEq_yes {l : List It} : lsEq l l = true := by simp [lsEq]
theorem lsEq_len {l m : List It} (h : l.length ≠ m.length) : lsEq l m = false := by
  simp [lsEq]; intro e; exact h (by rw [e])
theorem lsEq_at {l m : List It} {j : Nat} (h1 : j < l.length) (h2 : j < m.length) (h : l[j] ≠ m[j]) : lsEq l m = false := by
  simp [lsEq]; intro e; subst e; exact h rfl
theorem take_same {l m : List It} {j : Nat} (h1 : j < l.length) (h2 : j < m.length) (h : l.take j = m.take j) (e : l[j] = m[j]) : l.take (j + 1) = m.take (j + 1) := by
  rw [List.take_succ_eq_append_getElem h1, List.take_succ_eq_append_getElem h2, h, e]
set_option maxRecDepth 100000 in
set_option maxHeartbeats 1000000 in
theorem equal_any (v u : Value) (l m : List It) (w : World) (h : RdI w v l) (hu : RdI w u m) (h66 : l.length ≤ 100) (h67 : m.length ≤ 100) :
    Calls Tryd.prog 111 #[v, u] w fun e w' => e = .returned (.bool (lsEq l m)) ∧ ∃ n, w' = w.drewN n := by
  obtain ⟨ao, cap, rfl, hc, hm, hr⟩ := RdK.open h
  obtain ⟨ao2, cap2, rfl, hc2, hm2, hr2⟩ := RdK.open hu
  have hr : RdI w (.slice ao l.length cap) l := hr
  have hr2 : RdI w (.slice ao2 m.length cap2) m := hr2
  have HRD := Lib.hid hr
  have HRD2 := Lib.hid hr2
  obtain ⟨R, hR⟩ : ∃ R, R = lsEq l m := ⟨_, rfl⟩
  rw [← hR]
  have HR := Lib.hid hR
  clear h hr hu hr2 hR
  by_cases hlm : l.length = m.length
  · have HLM := Lib.hid hlm
    have hb1 : ((l.length : Int) != (m.length : Int)) = false := by rw [bne_eq_false_iff_eq]; omega
    rw [← hlm] at hb1 ⊢
    have hb2 : ((l.length : Int) != (l.length : Int)) = false := by rw [bne_eq_false_iff_eq]
    clear hlm hb1
    go_enter Tryd.func111, Tryd.ntmps111
    go_wp2_with fail
    go_loopw [13] (fun i wr => ∃ (j n0 : Nat), j ≤ l.length ∧ i = .int .i64 (j : Int) ∧ Hid (wr = w.drewN n0) ∧ Hid (l.take j = m.take j)) (fun i _ => 200 - (intOf i).toNat)
    case atStart => exact ⟨0, 0, Nat.zero_le _, rfl, (rfl : w = w.drewN 0), Lib.hid rfl⟩
    case round =>
      obtain ⟨j, n0, hj, rfl, HW, HE⟩ := hrel
      by_cases hlt : j < l.length
      · have bel : Below w.heap.size w wr := by rw [HW.out]; exact below_drewN (Below.refl _ _)
        have hlt2 : j < m.length := by have := HLM.out; omega
        have hr := HRD.out
        have R1 := hr.below bel (Nat.le_refl _)
        obtain ⟨b, off, rfl, hb, c0, c1, c2, c3, c4⟩ := rdi_cells R1 j hlt
        have hr2 := HRD2.out
        rw [← HLM.out] at hr2
        have R2 := hr2.below bel (Nat.le_refl _)
        obtain ⟨b2, off2, rfl, hb2, d0, d1, d2, d3, d4⟩ := rdi_cells R2 j hlt2
        obtain ⟨x, hx⟩ : ∃ x, x = l[j]'hlt := ⟨_, rfl⟩
        obtain ⟨y, hy⟩ : ∃ y, y = m[j]'hlt2 := ⟨_, rfl⟩
        rw [← hx] at c0 c1 c2 c3 c4
        rw [← hy] at d0 d1 d2 d3 d4
        by_cases hxy : x = y
        · have HN := Lib.hid (take_same hlt hlt2 HE.out (by rw [← hx, ← hy]; exact hxy))
          clear hx hy hr hr2 R1 R2 hlt2
          subst hxy
          have NE := fun W => it_ne_same x W
          unfold itV at NE
          go_wp2_with fail
          go_quiet (fail)
          have bel2 : Hid (wr.drewN nq = w.drewN (n0 + nq)) := by have h := HW.out; exact Lib.hid (by rw [h, World.drewN_drewN])
          go_wp2_with fail
          exact ⟨⟨j + 1, n0 + nq, by omega, by push_cast; rfl, bel2, HN⟩, by simp [intOf]; omega⟩
        · have HF := Lib.hid (show R = false by rw [HR.out]; exact lsEq_at hlt hlt2 (by rw [← hx, ← hy]; exact hxy))
          have NE := fun W => it_ne_yes x y hxy W
          unfold itV at NE
          clear hx hy hr hr2 R1 R2 hxy hlt2
          go_wp2_with fail
          go_quiet (fail)
          have bel2 : Hid (wr.drewN nq = w.drewN (n0 + nq)) := by have h := HW.out; exact Lib.hid (by rw [h, World.drewN_drewN])
          go_wp2_with fail
          go_ret
          exact ⟨by rw [HF.out]; rfl, _, bel2.out⟩
      · obtain rfl : j = l.length := by omega
        have HF := Lib.hid (show R = true by
          have h := HE.out
          rw [List.take_length, HLM.out, List.take_length] at h
          rw [HR.out, h]; exact lsEq_yes)
        go_wp2_with fail
        go_ret
        exact ⟨by rw [HF.out]; rfl, _, HW.out⟩
  · have HF := Lib.hid (show R = false by rw [HR.out]; exact lsEq_len hlm)
    have hb1 : ((l.length : Int) != (m.length : Int)) = true := by rw [bne_iff_ne]; omega
    clear hlm
    go_enter Tryd.func111, Tryd.ntmps111
    go_wp2_with fail
    go_ret
    exact ⟨by rw [HF.out]; rfl, 0, rfl⟩
theorem int_info10 : (Tryd.prog.info? 3 ).map (fun i => (i.zero, i.size, i.bytes)) = some (some (.int .i64 0), 1, 8) := by kernel_rfl
noncomputable def unlB (lv lv' : Nat → List It) (vs vs' : Nat → Int) (i : Nat) : Bool := (vs i != vs' i) || !lsEq (lv i) (lv' i)
noncomputable def unlL (lv lv' : Nat → List It) (vs vs' : Nat → Int) (n : Nat) : List Nat := (List.range n).filter (unlB lv lv' vs vs')
theorem unlL_succ (lv lv' : Nat → List It) (vs vs' : Nat → Int) (n : Nat) : unlL lv lv' vs vs' (n + 1) = unlL lv lv' vs vs' n ++ (if unlB lv lv' vs vs' n = true then [n] else []) := by
  unfold unlL; rw [List.range_succ, List.filter_append]; simp [List.filter_cons]
def ivN (n : Nat) : Value := .int .i64 (n : Int)
/-- A call hands back the numbers of a list, in a row of its own, and no error. -/
def OwnN (w : World) (L : List Nat) (e : Ending) (w' : World) : Prop := ∃ v', e = .returned (.tuple #[v', .int .i64 0]) ∧ w'.ownsRow w.heap.size 3 1 v' L.length (L.map ivN) ∧ Below w.heap.size w w'
set_option maxRecDepth 100000 in
set_option maxHeartbeats 2000000 in
theorem unlike_any (ca cb : Array Value) (lv lv' : Nat → List It) (vs vs' : Nat → Int) (w : World) (tab : TabAt w) (ha : RdT w ca lv vs) (hb : RdT w cb lv' vs') (hsa : SzT lv) (hsb : SzT lv') (ma : mayTs lv vs 16 = true) (mb : mayTs lv' vs' 16 = true) :
    Calls Tryd.prog 86 #[.agg ca, .agg cb] w (OwnN w (unlL lv lv' vs vs' 16)) := by
  obtain ⟨i0, hi0, hz0, hz1, hz2⟩ := info_parts int_info10
  have hs := infoTc ha.size
  have hs2 := infoTc hb.size
  have HA := Lib.hid ha
  have HB := Lib.hid hb
  have HMA := Lib.hid ma
  have HMB := Lib.hid mb
  have TA0 := fun W t h => tmay_any ca lv vs W t h hsa
  have TB0 := fun W t h => tmay_any cb lv' vs' W t h hsb
  rw [ma] at TA0
  rw [mb] at TB0
  have TA := Lib.hid TA0
  have TB := Lib.hid TB0
  obtain ⟨q2, q3, -, -⟩ := two_allocs w (.cells ca 26) (.cells cb 26)
  have bel : Below w.heap.size w ((w.alloc (.cells ca 26)).alloc (.cells cb 26)) := ((Below.refl _ w).alloc (Nat.le_refl _) _).alloc (by simp) _
  have T0 := tab.below bel
  obtain ⟨Z, hZ⟩ : ∃ Z, Z = OwnN w (unlL lv lv' vs vs' 16) := ⟨_, rfl⟩
  rw [← hZ]
  have HZ := Lib.hid hZ
  clear ha hb hsa hsb ma mb TA0 TB0 hZ tab
  go_enter Tryd.func86, Tryd.ntmps86
  go_wp2_with (with_reducible refine wpList_load_row (o := ⟨some 8, _, _, _, _, _⟩) rfl 26 (.tmp 2) rfl _ rfl _ ca (0, 0) _ q2 Tryd.underlying26 rfl hs ?_)
  refine (TA.out _ T0 (HA.out.below bel (Nat.le_refl _))).mono ?_
  rintro e w1 ⟨rfl, g⟩
  replace T0 := T0.below g
  replace q2 := (g.block _ (lt_of_block q2)).trans q2
  replace q3 := (g.block _ (lt_of_block q3)).trans q3
  replace bel := chain bel g
  clear g
  go_wp2_with (with_reducible refine wpList_load_row_g (o := ⟨some 12, _, _, _, _, _⟩) rfl 26 (.tmp 3) rfl _ rfl _ cb (0, 0) _ q3 Tryd.underlying26 rfl hs2 ?_)
  refine (TB.out _ T0 (HB.out.below bel (Nat.le_refl _))).mono ?_
  rintro e w2 ⟨rfl, g⟩
  replace q2 := (g.block _ (lt_of_block q2)).trans q2
  replace q3 := (g.block _ (lt_of_block q3)).trans q3
  replace bel := chain bel g
  clear g T0
  go_wp2_with fail
  obtain ⟨wl, hwl⟩ : ∃ wl, wl = w2 := ⟨_, rfl⟩
  rw [← hwl] at q2 q3 bel ⊢
  clear hwl
  have hl : w.heap.size + 2 ≤ wl.heap.size := lt_of_block q3
  have Q2 := Lib.hid q2
  have Q3 := Lib.hid q3
  have BELL := Lib.hid bel
  go_loopw [16, 6] (fun i v wr => ∃ (k : Nat) (X : List Nat), k ≤ 16 ∧ i = .int .i64 (k : Int) ∧ Hid (X = unlL lv lv' vs vs' k) ∧ X.length ≤ k ∧ wr.ownsRow (w.heap.size + 2) 3 1 v X.length (X.map ivN) ∧ Below (w.heap.size + 2) wl wr) (fun i _ _ => 20 - (intOf i).toNat)
  case atStart => exact ⟨0, [], by omega, rfl, Lib.hid rfl, Nat.le_refl _, World.ownsRow_nil _ _ _ _, Below.refl _ _⟩
  case round =>
    clear q2 q3 bel
    obtain ⟨k, X, hk, rfl, HX, hX, own, belL⟩ := hrel
    have bel := BELL.out.trans (belL.mono (Nat.le_add_right _ 2))
    have q2 := (belL.block _ (by omega)).trans Q2.out
    have q3 := (belL.block _ (by omega)).trans Q3.out
    by_cases hlt : k < 16
    · have hlti : (k : Int) < 16 := by omega
      obtain ⟨u, hu, hru⟩ := HA.out.leaf k hlt
      obtain ⟨u', hu', hru'⟩ := HB.out.leaf k hlt
      have VA := Lib.hid (HA.out.ver k hlt)
      have VB := Lib.hid (HB.out.ver k hlt)
      have LA := Lib.hid hu
      have LB := Lib.hid hu'
      have SM0 := fun W (g : Below wr.heap.size wr W) => equal_any u u' (lv k) (lv' k) W (hru.below (chain bel g) (Nat.le_refl _)) (hru'.below (chain bel g) (Nat.le_refl _)) (by have := isL_len (isT HMA.out hlt); omega) (by have := isL_len (isT HMB.out hlt); omega)
      clear hu hru hu' hru'
      cases hd : (vs k != vs' k) with
      | true =>
        have HN := Lib.hid (show X ++ [k] = unlL lv lv' vs vs' (k + 1) by rw [unlL_succ, ← HX.out, if_pos (by unfold unlB; rw [hd]; rfl)])
        clear SM0
        go_wp2_with fail
        refine g_start (by kernel_rfl) ?_
        refine g_take (i := 0) (d := (some 19)) (v := ?_) rfl rfl (by kernel_rfl) (fun _ _ _ h => h) (by rfl) (fun w' hb' => ?_) ?_
        rotate_left
        · (try go_simp); (try with_reducible rfl)
        try simp only [Act.put, List.setIfInBounds_toArray, List.set_cons_zero, List.set_cons_succ]
        refine g_take (i := 1) (d := (some 20)) (v := ?_) rfl rfl (by kernel_rfl) (fun _ _ _ h => h) (by rfl) (fun w' hb' => ?_) ?_
        rotate_left
        · (try go_simp); (try with_reducible rfl)
        try simp only [Act.put, List.setIfInBounds_toArray, List.set_cons_zero, List.set_cons_succ]
        refine g_take (i := 2) (d := (some 21)) (v := ?_) rfl rfl (by kernel_rfl) (fun _ _ _ h => h) (by rfl) (fun w' hb' => ?_) ?_
        rotate_left
        · (try go_simp); (try with_reducible rfl)
        try simp only [Act.put, List.setIfInBounds_toArray, List.set_cons_zero, List.set_cons_succ]
        refine g_take (i := 3) (d := (some 22)) (v := ?_) rfl rfl (by kernel_rfl) (fun _ _ _ h => h) (by rfl) (fun w' hb' => ?_) ?_
        rotate_left
        · have zz := (hb'.cell (p := ⟨w.heap.size, 16 + k, none⟩) (lt_of_block q2)).trans ((block_cell q2 (16 + k)).trans VA.out); have zy := zz; rw [Nat.add_comm 16 k] at zy; (try go_simp); (try with_reducible rfl)
        try simp only [Act.put, List.setIfInBounds_toArray, List.set_cons_zero, List.set_cons_succ]
        refine g_take (i := 4) (d := (some 23)) (v := ?_) rfl rfl (by kernel_rfl) (fun _ _ _ h => h) (by rfl) (fun w' hb' => ?_) ?_
        rotate_left
        · (try go_simp); (try with_reducible rfl)
        try simp only [Act.put, List.setIfInBounds_toArray, List.set_cons_zero, List.set_cons_succ]
        refine g_take (i := 5) (d := (some 24)) (v := ?_) rfl rfl (by kernel_rfl) (fun _ _ _ h => h) (by rfl) (fun w' hb' => ?_) ?_
        rotate_left
        · (try go_simp); (try with_reducible rfl)
        try simp only [Act.put, List.setIfInBounds_toArray, List.set_cons_zero, List.set_cons_succ]
        refine g_take (i := 6) (d := (some 25)) (v := ?_) rfl rfl (by kernel_rfl) (fun _ _ _ h => h) (by rfl) (fun w' hb' => ?_) ?_
        rotate_left
        · (try go_simp); (try with_reducible rfl)
        try simp only [Act.put, List.setIfInBounds_toArray, List.set_cons_zero, List.set_cons_succ]
        refine g_take (i := 7) (d := (some 26)) (v := ?_) rfl rfl (by kernel_rfl) (fun _ _ _ h => h) (by rfl) (fun w' hb' => ?_) ?_
        rotate_left
        · have zz := (hb'.cell (p := ⟨w.heap.size + 1, 16 + k, none⟩) (lt_of_block q3)).trans ((block_cell q3 (16 + k)).trans VB.out); have zy := zz; rw [Nat.add_comm 16 k] at zy; (try go_simp); (try with_reducible rfl)
        try simp only [Act.put, List.setIfInBounds_toArray, List.set_cons_zero, List.set_cons_succ]
        refine g_take (i := 8) (d := (some 27)) (v := ?_) rfl rfl (by kernel_rfl) (fun _ _ _ h => h) (by rfl) (fun w' hb' => ?_) ?_
        rotate_left
        · (try go_simp); (try with_reducible rfl)
        try simp only [Act.put, List.setIfInBounds_toArray, List.set_cons_zero, List.set_cons_succ]
        refine g_take (i := 9) (d := (some 28)) (v := ?_) rfl rfl (by kernel_rfl) (fun _ _ _ h => h) (by rfl) (fun w' hb' => ?_) ?_
        rotate_left
        · (try go_simp); (try with_reducible rfl)
        try simp only [Act.put, List.setIfInBounds_toArray, List.set_cons_zero, List.set_cons_succ]
        refine g_skip (i := 10) (d := (some 29)) rfl rfl (by kernel_rfl) (fun _ _ _ h => h) (by rfl) ?_
        try simp only [Act.put, List.setIfInBounds_toArray, List.set_cons_zero, List.set_cons_succ]
        refine g_skip (i := 11) (d := (some 30)) rfl rfl (by kernel_rfl) (fun _ _ _ h => h) (by rfl) ?_
        try simp only [Act.put, List.setIfInBounds_toArray, List.set_cons_zero, List.set_cons_succ]
        refine g_skip (i := 12) (d := (some 31)) rfl rfl (by kernel_rfl) (fun _ _ _ h => h) (by rfl) ?_
        try simp only [Act.put, List.setIfInBounds_toArray, List.set_cons_zero, List.set_cons_succ]
        refine g_skip (i := 13) (d := (some 32)) rfl rfl (by kernel_rfl) (fun _ _ _ h => h) (by rfl) ?_
        try simp only [Act.put, List.setIfInBounds_toArray, List.set_cons_zero, List.set_cons_succ]
        refine g_skip (i := 14) (d := (some 33)) rfl rfl (by kernel_rfl) (fun _ _ _ h => h) (by rfl) ?_
        try simp only [Act.put, List.setIfInBounds_toArray, List.set_cons_zero, List.set_cons_succ]
        refine g_skip (i := 15) (d := (some 34)) rfl rfl (by kernel_rfl) (fun _ _ _ h => h) (by rfl) ?_
        try simp only [Act.put, List.setIfInBounds_toArray, List.set_cons_zero, List.set_cons_succ]
        refine g_skip (i := 16) (d := (some 35)) rfl rfl (by kernel_rfl) (fun _ _ _ h => h) (by rfl) ?_
        try simp only [Act.put, List.setIfInBounds_toArray, List.set_cons_zero, List.set_cons_succ]
        refine g_skip (i := 17) (d := (some 36)) rfl rfl (by kernel_rfl) (fun _ _ _ h => h) (by rfl) ?_
        try simp only [Act.put, List.setIfInBounds_toArray, List.set_cons_zero, List.set_cons_succ]
        refine g_skip (i := 18) (d := (some 37)) rfl rfl (by kernel_rfl) (fun _ _ _ h => h) (by rfl) ?_
        try simp only [Act.put, List.setIfInBounds_toArray, List.set_cons_zero, List.set_cons_succ]
        refine g_skip (i := 19) (d := (some 38)) rfl rfl (by kernel_rfl) (fun _ _ _ h => h) (by rfl) ?_
        try simp only [Act.put, List.setIfInBounds_toArray, List.set_cons_zero, List.set_cons_succ]
        refine g_take (i := 20) (d := (some 39)) (v := ?_) rfl rfl (by kernel_rfl) (fun _ _ _ h => h) (by rfl) (fun w' hb' => ?_) ?_
        rotate_left
        · (try go_simp); (try with_reducible rfl)
        try simp only [Act.put, List.setIfInBounds_toArray, List.set_cons_zero, List.set_cons_succ]
        refine g_done (by kernel_rfl) ?_
        have BEL0 := Below.drew belL
        go_wp2_with (at_builtin; refine wpList_app1 wl rfl (.tmp 40) (.tmp 42) 90 rfl (w.heap.size + 2) 3 i0 (.int .i64 0) 8 Tryd.underlying90 hi0 hz0 hz1 hz2 rfl _ X.length (X.map ivN) rfl own 3 (.int .i64 (k : Int)) rfl rfl (by unfold maxLen; omega) (by omega) hl BEL0 ?_; intro z1 w9 own1 bel1)
        have own2 : w9.ownsRow (w.heap.size + 2) 3 1 z1 (X ++ [k]).length ((X ++ [k]).map ivN) := by rw [List.length_append, List.map_append]; exact own1
        exact ⟨⟨k + 1, X ++ [k], by omega, by push_cast; rfl, HN, by rw [List.length_append]; exact Nat.succ_le_succ hX, own2, bel1⟩, by simp [intOf]; omega⟩
      | false =>
        cases hle : lsEq (lv k) (lv' k) with
        | true =>
          have HN := Lib.hid (show X = unlL lv lv' vs vs' (k + 1) by rw [unlL_succ, ← HX.out, if_neg (by unfold unlB; rw [hd, hle]; simp), List.append_nil])
          rw [hle] at SM0
          have SM := Lib.hid SM0
          clear SM0 hle
          go_wp2_with fail
          refine g_start (by kernel_rfl) ?_
          refine g_take (i := 0) (d := (some 19)) (v := ?_) rfl rfl (by kernel_rfl) (fun _ _ _ h => h) (by rfl) (fun w' hb' => ?_) ?_
          rotate_left
          · (try go_simp); (try with_reducible rfl)
          try simp only [Act.put, List.setIfInBounds_toArray, List.set_cons_zero, List.set_cons_succ]
          refine g_take (i := 1) (d := (some 20)) (v := ?_) rfl rfl (by kernel_rfl) (fun _ _ _ h => h) (by rfl) (fun w' hb' => ?_) ?_
          rotate_left
          · (try go_simp); (try with_reducible rfl)
          try simp only [Act.put, List.setIfInBounds_toArray, List.set_cons_zero, List.set_cons_succ]
          refine g_take (i := 2) (d := (some 21)) (v := ?_) rfl rfl (by kernel_rfl) (fun _ _ _ h => h) (by rfl) (fun w' hb' => ?_) ?_
          rotate_left
          · (try go_simp); (try with_reducible rfl)
          try simp only [Act.put, List.setIfInBounds_toArray, List.set_cons_zero, List.set_cons_succ]
          refine g_take (i := 3) (d := (some 22)) (v := ?_) rfl rfl (by kernel_rfl) (fun _ _ _ h => h) (by rfl) (fun w' hb' => ?_) ?_
          rotate_left
          · have zz := (hb'.cell (p := ⟨w.heap.size, 16 + k, none⟩) (lt_of_block q2)).trans ((block_cell q2 (16 + k)).trans VA.out); have zy := zz; rw [Nat.add_comm 16 k] at zy; (try go_simp); (try with_reducible rfl)
          try simp only [Act.put, List.setIfInBounds_toArray, List.set_cons_zero, List.set_cons_succ]
          refine g_take (i := 4) (d := (some 23)) (v := ?_) rfl rfl (by kernel_rfl) (fun _ _ _ h => h) (by rfl) (fun w' hb' => ?_) ?_
          rotate_left
          · (try go_simp); (try with_reducible rfl)
          try simp only [Act.put, List.setIfInBounds_toArray, List.set_cons_zero, List.set_cons_succ]
          refine g_take (i := 5) (d := (some 24)) (v := ?_) rfl rfl (by kernel_rfl) (fun _ _ _ h => h) (by rfl) (fun w' hb' => ?_) ?_
          rotate_left
          · (try go_simp); (try with_reducible rfl)
          try simp only [Act.put, List.setIfInBounds_toArray, List.set_cons_zero, List.set_cons_succ]
          refine g_take (i := 6) (d := (some 25)) (v := ?_) rfl rfl (by kernel_rfl) (fun _ _ _ h => h) (by rfl) (fun w' hb' => ?_) ?_
          rotate_left
          · (try go_simp); (try with_reducible rfl)
          try simp only [Act.put, List.setIfInBounds_toArray, List.set_cons_zero, List.set_cons_succ]
          refine g_take (i := 7) (d := (some 26)) (v := ?_) rfl rfl (by kernel_rfl) (fun _ _ _ h => h) (by rfl) (fun w' hb' => ?_) ?_
          rotate_left
          · have zz := (hb'.cell (p := ⟨w.heap.size + 1, 16 + k, none⟩) (lt_of_block q3)).trans ((block_cell q3 (16 + k)).trans VB.out); have zy := zz; rw [Nat.add_comm 16 k] at zy; (try go_simp); (try with_reducible rfl)
          try simp only [Act.put, List.setIfInBounds_toArray, List.set_cons_zero, List.set_cons_succ]
          refine g_take (i := 8) (d := (some 27)) (v := ?_) rfl rfl (by kernel_rfl) (fun _ _ _ h => h) (by rfl) (fun w' hb' => ?_) ?_
          rotate_left
          · (try go_simp); (try with_reducible rfl)
          try simp only [Act.put, List.setIfInBounds_toArray, List.set_cons_zero, List.set_cons_succ]
          refine g_take (i := 9) (d := (some 28)) (v := ?_) rfl rfl (by kernel_rfl) (fun _ _ _ h => h) (by rfl) (fun w' hb' => ?_) ?_
          rotate_left
          · (try go_simp); (try with_reducible rfl)
          try simp only [Act.put, List.setIfInBounds_toArray, List.set_cons_zero, List.set_cons_succ]
          refine g_take (i := 10) (d := (some 29)) (v := ?_) rfl rfl (by kernel_rfl) (fun _ _ _ h => h) (by rfl) (fun w' hb' => ?_) ?_
          rotate_left
          · (try go_simp); (try with_reducible rfl)
          try simp only [Act.put, List.setIfInBounds_toArray, List.set_cons_zero, List.set_cons_succ]
          refine g_take (i := 11) (d := (some 30)) (v := ?_) rfl rfl (by kernel_rfl) (fun _ _ _ h => h) (by rfl) (fun w' hb' => ?_) ?_
          rotate_left
          · (try go_simp); (try with_reducible rfl)
          try simp only [Act.put, List.setIfInBounds_toArray, List.set_cons_zero, List.set_cons_succ]
          refine g_take (i := 12) (d := (some 31)) (v := ?_) rfl rfl (by kernel_rfl) (fun _ _ _ h => h) (by rfl) (fun w' hb' => ?_) ?_
          rotate_left
          · (try go_simp); (try with_reducible rfl)
          try simp only [Act.put, List.setIfInBounds_toArray, List.set_cons_zero, List.set_cons_succ]
          refine g_take (i := 13) (d := (some 32)) (v := ?_) rfl rfl (by kernel_rfl) (fun _ _ _ h => h) (by rfl) (fun w' hb' => ?_) ?_
          rotate_left
          · have zz := (hb'.cell (p := ⟨w.heap.size, k, none⟩) (lt_of_block q2)).trans ((block_cell q2 k).trans LA.out); (try go_simp); (try with_reducible rfl)
          try simp only [Act.put, List.setIfInBounds_toArray, List.set_cons_zero, List.set_cons_succ]
          refine g_take (i := 14) (d := (some 33)) (v := ?_) rfl rfl (by kernel_rfl) (fun _ _ _ h => h) (by rfl) (fun w' hb' => ?_) ?_
          rotate_left
          · (try go_simp); (try with_reducible rfl)
          try simp only [Act.put, List.setIfInBounds_toArray, List.set_cons_zero, List.set_cons_succ]
          refine g_take (i := 15) (d := (some 34)) (v := ?_) rfl rfl (by kernel_rfl) (fun _ _ _ h => h) (by rfl) (fun w' hb' => ?_) ?_
          rotate_left
          · (try go_simp); (try with_reducible rfl)
          try simp only [Act.put, List.setIfInBounds_toArray, List.set_cons_zero, List.set_cons_succ]
          refine g_take (i := 16) (d := (some 35)) (v := ?_) rfl rfl (by kernel_rfl) (fun _ _ _ h => h) (by rfl) (fun w' hb' => ?_) ?_
          rotate_left
          · (try go_simp); (try with_reducible rfl)
          try simp only [Act.put, List.setIfInBounds_toArray, List.set_cons_zero, List.set_cons_succ]
          refine g_take (i := 17) (d := (some 36)) (v := ?_) rfl rfl (by kernel_rfl) (fun _ _ _ h => h) (by rfl) (fun w' hb' => ?_) ?_
          rotate_left
          · have zz := (hb'.cell (p := ⟨w.heap.size + 1, k, none⟩) (lt_of_block q3)).trans ((block_cell q3 k).trans LB.out); (try go_simp); (try with_reducible rfl)
          try simp only [Act.put, List.setIfInBounds_toArray, List.set_cons_zero, List.set_cons_succ]
          refine g_run (i := 18) rfl (by kernel_rfl) (by rfl) (fun K hK => ?_)
          go_simp; refine (SM.out _ (Below.drew (Below.refl _ _))).mono ?_; rintro e w2 ⟨rfl, n2, hw2⟩; have g : Below wr.drew.heap.size wr.drew w2 := (by rw [hw2]; exact below_drewN (Below.refl _ _)); have g1 := Below.trans (Below.drew (Below.refl wr.heap.size wr)) g; have b2 := chain bel g1; have l2 := belL.trans (g1.mono (Nat.le_trans hl belL.size)); have own := own_keep own g1;  refine hK _ _ ⟨g, ?_⟩; clear hK K g hw2 g1
          try simp only [Act.put, List.setIfInBounds_toArray, List.set_cons_zero, List.set_cons_succ]
          refine g_take (i := 19) (d := (some 38)) (v := ?_) rfl rfl (by kernel_rfl) (fun _ _ _ h => h) (by rfl) (fun w' hb' => ?_) ?_
          rotate_left
          · (try go_simp); (try with_reducible rfl)
          try simp only [Act.put, List.setIfInBounds_toArray, List.set_cons_zero, List.set_cons_succ]
          refine g_take (i := 20) (d := (some 39)) (v := ?_) rfl rfl (by kernel_rfl) (fun _ _ _ h => h) (by rfl) (fun w' hb' => ?_) ?_
          rotate_left
          · (try go_simp); (try with_reducible rfl)
          try simp only [Act.put, List.setIfInBounds_toArray, List.set_cons_zero, List.set_cons_succ]
          refine g_done (by kernel_rfl) ?_
          go_wp2_with fail
          exact ⟨⟨k + 1, X, by omega, by push_cast; rfl, HN, by omega, own, l2⟩, by simp [intOf]; omega⟩
        | false =>
          have HN := Lib.hid (show X ++ [k] = unlL lv lv' vs vs' (k + 1) by rw [unlL_succ, ← HX.out, if_pos (by unfold unlB; rw [hd, hle]; rfl)])
          rw [hle] at SM0
          have SM := Lib.hid SM0
          clear SM0 hle
          go_wp2_with fail
          refine g_start (by kernel_rfl) ?_
          refine g_take (i := 0) (d := (some 19)) (v := ?_) rfl rfl (by kernel_rfl) (fun _ _ _ h => h) (by rfl) (fun w' hb' => ?_) ?_
          rotate_left
          · (try go_simp); (try with_reducible rfl)
          try simp only [Act.put, List.setIfInBounds_toArray, List.set_cons_zero, List.set_cons_succ]
          refine g_take (i := 1) (d := (some 20)) (v := ?_) rfl rfl (by kernel_rfl) (fun _ _ _ h => h) (by rfl) (fun w' hb' => ?_) ?_
          rotate_left
          · (try go_simp); (try with_reducible rfl)
          try simp only [Act.put, List.setIfInBounds_toArray, List.set_cons_zero, List.set_cons_succ]
          refine g_take (i := 2) (d := (some 21)) (v := ?_) rfl rfl (by kernel_rfl) (fun _ _ _ h => h) (by rfl) (fun w' hb' => ?_) ?_
          rotate_left
          · (try go_simp); (try with_reducible rfl)
          try simp only [Act.put, List.setIfInBounds_toArray, List.set_cons_zero, List.set_cons_succ]
          refine g_take (i := 3) (d := (some 22)) (v := ?_) rfl rfl (by kernel_rfl) (fun _ _ _ h => h) (by rfl) (fun w' hb' => ?_) ?_
          rotate_left
          · have zz := (hb'.cell (p := ⟨w.heap.size, 16 + k, none⟩) (lt_of_block q2)).trans ((block_cell q2 (16 + k)).trans VA.out); have zy := zz; rw [Nat.add_comm 16 k] at zy; (try go_simp); (try with_reducible rfl)
          try simp only [Act.put, List.setIfInBounds_toArray, List.set_cons_zero, List.set_cons_succ]
          refine g_take (i := 4) (d := (some 23)) (v := ?_) rfl rfl (by kernel_rfl) (fun _ _ _ h => h) (by rfl) (fun w' hb' => ?_) ?_
          rotate_left
          · (try go_simp); (try with_reducible rfl)
          try simp only [Act.put, List.setIfInBounds_toArray, List.set_cons_zero, List.set_cons_succ]
          refine g_take (i := 5) (d := (some 24)) (v := ?_) rfl rfl (by kernel_rfl) (fun _ _ _ h => h) (by rfl) (fun w' hb' => ?_) ?_
          rotate_left
          · (try go_simp); (try with_reducible rfl)
          try simp only [Act.put, List.setIfInBounds_toArray, List.set_cons_zero, List.set_cons_succ]
          refine g_take (i := 6) (d := (some 25)) (v := ?_) rfl rfl (by kernel_rfl) (fun _ _ _ h => h) (by rfl) (fun w' hb' => ?_) ?_
          rotate_left
          · (try go_simp); (try with_reducible rfl)
          try simp only [Act.put, List.setIfInBounds_toArray, List.set_cons_zero, List.set_cons_succ]
          refine g_take (i := 7) (d := (some 26)) (v := ?_) rfl rfl (by kernel_rfl) (fun _ _ _ h => h) (by rfl) (fun w' hb' => ?_) ?_
          rotate_left
          · have zz := (hb'.cell (p := ⟨w.heap.size + 1, 16 + k, none⟩) (lt_of_block q3)).trans ((block_cell q3 (16 + k)).trans VB.out); have zy := zz; rw [Nat.add_comm 16 k] at zy; (try go_simp); (try with_reducible rfl)
          try simp only [Act.put, List.setIfInBounds_toArray, List.set_cons_zero, List.set_cons_succ]
          refine g_take (i := 8) (d := (some 27)) (v := ?_) rfl rfl (by kernel_rfl) (fun _ _ _ h => h) (by rfl) (fun w' hb' => ?_) ?_
          rotate_left
          · (try go_simp); (try with_reducible rfl)
          try simp only [Act.put, List.setIfInBounds_toArray, List.set_cons_zero, List.set_cons_succ]
          refine g_take (i := 9) (d := (some 28)) (v := ?_) rfl rfl (by kernel_rfl) (fun _ _ _ h => h) (by rfl) (fun w' hb' => ?_) ?_
          rotate_left
          · (try go_simp); (try with_reducible rfl)
          try simp only [Act.put, List.setIfInBounds_toArray, List.set_cons_zero, List.set_cons_succ]
          refine g_take (i := 10) (d := (some 29)) (v := ?_) rfl rfl (by kernel_rfl) (fun _ _ _ h => h) (by rfl) (fun w' hb' => ?_) ?_
          rotate_left
          · (try go_simp); (try with_reducible rfl)
          try simp only [Act.put, List.setIfInBounds_toArray, List.set_cons_zero, List.set_cons_succ]
          refine g_take (i := 11) (d := (some 30)) (v := ?_) rfl rfl (by kernel_rfl) (fun _ _ _ h => h) (by rfl) (fun w' hb' => ?_) ?_
          rotate_left
          · (try go_simp); (try with_reducible rfl)
          try simp only [Act.put, List.setIfInBounds_toArray, List.set_cons_zero, List.set_cons_succ]
          refine g_take (i := 12) (d := (some 31)) (v := ?_) rfl rfl (by kernel_rfl) (fun _ _ _ h => h) (by rfl) (fun w' hb' => ?_) ?_
          rotate_left
          · (try go_simp); (try with_reducible rfl)
          try simp only [Act.put, List.setIfInBounds_toArray, List.set_cons_zero, List.set_cons_succ]
          refine g_take (i := 13) (d := (some 32)) (v := ?_) rfl rfl (by kernel_rfl) (fun _ _ _ h => h) (by rfl) (fun w' hb' => ?_) ?_
          rotate_left
          · have zz := (hb'.cell (p := ⟨w.heap.size, k, none⟩) (lt_of_block q2)).trans ((block_cell q2 k).trans LA.out); (try go_simp); (try with_reducible rfl)
          try simp only [Act.put, List.setIfInBounds_toArray, List.set_cons_zero, List.set_cons_succ]
          refine g_take (i := 14) (d := (some 33)) (v := ?_) rfl rfl (by kernel_rfl) (fun _ _ _ h => h) (by rfl) (fun w' hb' => ?_) ?_
          rotate_left
          · (try go_simp); (try with_reducible rfl)
          try simp only [Act.put, List.setIfInBounds_toArray, List.set_cons_zero, List.set_cons_succ]
          refine g_take (i := 15) (d := (some 34)) (v := ?_) rfl rfl (by kernel_rfl) (fun _ _ _ h => h) (by rfl) (fun w' hb' => ?_) ?_
          rotate_left
          · (try go_simp); (try with_reducible rfl)
          try simp only [Act.put, List.setIfInBounds_toArray, List.set_cons_zero, List.set_cons_succ]
          refine g_take (i := 16) (d := (some 35)) (v := ?_) rfl rfl (by kernel_rfl) (fun _ _ _ h => h) (by rfl) (fun w' hb' => ?_) ?_
          rotate_left
          · (try go_simp); (try with_reducible rfl)
          try simp only [Act.put, List.setIfInBounds_toArray, List.set_cons_zero, List.set_cons_succ]
          refine g_take (i := 17) (d := (some 36)) (v := ?_) rfl rfl (by kernel_rfl) (fun _ _ _ h => h) (by rfl) (fun w' hb' => ?_) ?_
          rotate_left
          · have zz := (hb'.cell (p := ⟨w.heap.size + 1, k, none⟩) (lt_of_block q3)).trans ((block_cell q3 k).trans LB.out); (try go_simp); (try with_reducible rfl)
          try simp only [Act.put, List.setIfInBounds_toArray, List.set_cons_zero, List.set_cons_succ]
          refine g_run (i := 18) rfl (by kernel_rfl) (by rfl) (fun K hK => ?_)
          go_simp; refine (SM.out _ (Below.drew (Below.refl _ _))).mono ?_; rintro e w2 ⟨rfl, n2, hw2⟩; have g : Below wr.drew.heap.size wr.drew w2 := (by rw [hw2]; exact below_drewN (Below.refl _ _)); have g1 := Below.trans (Below.drew (Below.refl wr.heap.size wr)) g; have b2 := chain bel g1; have l2 := belL.trans (g1.mono (Nat.le_trans hl belL.size)); have own := own_keep own g1;  refine hK _ _ ⟨g, ?_⟩; clear hK K g hw2 g1
          try simp only [Act.put, List.setIfInBounds_toArray, List.set_cons_zero, List.set_cons_succ]
          refine g_take (i := 19) (d := (some 38)) (v := ?_) rfl rfl (by kernel_rfl) (fun _ _ _ h => h) (by rfl) (fun w' hb' => ?_) ?_
          rotate_left
          · (try go_simp); (try with_reducible rfl)
          try simp only [Act.put, List.setIfInBounds_toArray, List.set_cons_zero, List.set_cons_succ]
          refine g_take (i := 20) (d := (some 39)) (v := ?_) rfl rfl (by kernel_rfl) (fun _ _ _ h => h) (by rfl) (fun w' hb' => ?_) ?_
          rotate_left
          · (try go_simp); (try with_reducible rfl)
          try simp only [Act.put, List.setIfInBounds_toArray, List.set_cons_zero, List.set_cons_succ]
          refine g_done (by kernel_rfl) ?_
          have hxk := Lib.hid hX
          go_wp2_with (at_builtin; refine wpList_app1 wl rfl (.tmp 40) (.tmp 42) 90 rfl (w.heap.size + 2) 3 i0 (.int .i64 0) 8 Tryd.underlying90 hi0 hz0 hz1 hz2 rfl _ X.length (X.map ivN) rfl own 3 (.int .i64 (k : Int)) rfl rfl (by unfold maxLen; omega) (by omega) hl l2 ?_; intro z1 w9 own1 bel1)
          have own2 : w9.ownsRow (w.heap.size + 2) 3 1 z1 (X ++ [k]).length ((X ++ [k]).map ivN) := by rw [List.length_append, List.map_append]; exact own1
          exact ⟨⟨k + 1, X ++ [k], by omega, by push_cast; rfl, HN, by rw [List.length_append]; exact Nat.succ_le_succ hX, own2, bel1⟩, by simp [intOf]; omega⟩
    · obtain rfl : k = 16 := by omega
      go_wp2_with fail
      show Z (.returned (.tuple #[_, .int .i64 0])) _
      rw [HZ.out]
      exact ⟨_, rfl, by rw [← HX.out]; exact own_base own (by omega), bel⟩
end Go.Proofs.YtbdfcgffkonbiaaDoor
