/- Trunks: Replace. Written by wip/tools/gen10u.py. -/
import Derived.Test.YtmjedjhkhjiigaaDoorQTKC26
namespace Go.Proofs.YtmjedjhkhjiigaaDoor
open Go Go.RowKit
set_option linter.unusedVariables false
set_option linter.unusedSimpArgs false
set_option maxRecDepth 100000 in
set_option maxHeartbeats 2000000 in
theorem repl_may (cs : Array Value) (lv : Nat → List It) (vs : Nat → Int) (b : Int) (vl : Value) (l : List It) (ver : Int) (w : World) (tab : TabAt w) (h : RdT w cs lv vs) (hsz : SzT lv) (hl : RdI w vl l) (hm : mayTs lv vs 16 = false) :
    Calls Tryd.prog 31 #[.agg cs, .int .i64 b, vl, .int .i64 ver] w (TrZ w 1) := by
  have hs := infoTc h.size
  have HT := Lib.hid h
  have HS := Lib.hid hsz
  have z0 := zeroT_run
  have z1 := zT_ne
  obtain ⟨q4, q8, -, -⟩ := two_allocs w (.cells cs 26) (.cells zT 26)
  have bel : Below w.heap.size w ((w.alloc (.cells cs 26)).alloc (.cells zT 26)) := ((Below.refl _ w).alloc (Nat.le_refl _) _).alloc (by simp) _
  have T0 := tab.below bel
  have hlw := Nat.le_refl w.heap.size
  have TM0 := fun W t h => tmay_any cs lv vs W t h HS.out
  rw [hm] at TM0
  have TM := Lib.hid TM0
  obtain ⟨al, cl, rfl, -, -, -⟩ := RdK.open hl
  have HL := Lib.hid hl
  clear h hsz tab TM0 hm hl
  obtain ⟨Z, hZ⟩ : ∃ Z, Z = TrZ w 1 := ⟨_, rfl⟩
  rw [← hZ]
  have HZ := Lib.hid hZ
  clear hZ
  go_enter Tryd.func31, Tryd.ntmps31
  go_wp2_with (with_reducible refine wpList_load_row (o := ⟨some 11, _, _, _, _, _⟩) rfl 26 (.tmp 4) rfl _ rfl _ cs (0, 0) _ q4 Tryd.underlying26 rfl hs ?_)
  refine (TM.out _ T0 (HT.out.below bel (Nat.le_refl _))).mono ?_
  rintro e w1 ⟨rfl, g⟩
  replace T0 := T0.below g
  replace q8 := (g.block _ (lt_of_block q8)).trans q8
  replace bel := chain bel g
  clear g q4
  go_wp2_with (with_reducible refine wpList_store_row (o := ⟨none, _, _, _, _, _⟩) rfl 26 (.tmp 8) (.tmp 14) rfl _ zT rfl rfl _ zT q8 (infoTc zT_size) rfl zT_one ?_)
  rw [setRow_self _ _ _ _ _ q8]
  go_wp2_with fail
  refine bodyPost_ret (v := .tuple #[.agg zT, .int .i64 1]) (results_row_tmp rfl _ _ _ _ zT (0, 0) _ _ rfl rfl q8 Tryd.underlying26 rfl (infoTc zT_size)) rfl ?_
  rw [HZ.out]; exact ⟨rfl, bel⟩
set_option maxRecDepth 100000 in
set_option maxHeartbeats 2000000 in
theorem repl_range (cs : Array Value) (lv : Nat → List It) (vs : Nat → Int) (b : Int) (vl : Value) (l : List It) (ver : Int) (w : World) (tab : TabAt w) (h : RdT w cs lv vs) (hsz : SzT lv) (hl : RdI w vl l) (hm : mayTs lv vs 16 = true) (hb : b < 0 ∨ 16 ≤ b) :
    Calls Tryd.prog 31 #[.agg cs, .int .i64 b, vl, .int .i64 ver] w (TrZ w 4) := by
  have hs := infoTc h.size
  have HT := Lib.hid h
  have HS := Lib.hid hsz
  have z0 := zeroT_run
  have z1 := zT_ne
  obtain ⟨q4, q8, -, -⟩ := two_allocs w (.cells cs 26) (.cells zT 26)
  have bel : Below w.heap.size w ((w.alloc (.cells cs 26)).alloc (.cells zT 26)) := ((Below.refl _ w).alloc (Nat.le_refl _) _).alloc (by simp) _
  have T0 := tab.below bel
  have hlw := Nat.le_refl w.heap.size
  have TM0 := fun W t h => tmay_any cs lv vs W t h HS.out
  rw [hm] at TM0
  have TM := Lib.hid TM0
  obtain ⟨al, cl, rfl, -, -, -⟩ := RdK.open hl
  have HL := Lib.hid hl
  clear h hsz tab TM0 hm hl
  obtain ⟨Z, hZ⟩ : ∃ Z, Z = TrZ w 4 := ⟨_, rfl⟩
  rw [← hZ]
  have HZ := Lib.hid hZ
  clear hZ
  go_enter Tryd.func31, Tryd.ntmps31
  go_wp2_with (with_reducible refine wpList_load_row (o := ⟨some 11, _, _, _, _, _⟩) rfl 26 (.tmp 4) rfl _ rfl _ cs (0, 0) _ q4 Tryd.underlying26 rfl hs ?_)
  refine (TM.out _ T0 (HT.out.below bel (Nat.le_refl _))).mono ?_
  rintro e w1 ⟨rfl, g⟩
  replace T0 := T0.below g
  replace q8 := (g.block _ (lt_of_block q8)).trans q8
  replace bel := chain bel g
  clear g q4
  by_cases h0 : b < 0
  · have d1 : decide (b < 0) = true := decide_eq_true h0
    clear hb h0
    go_wp2_with (with_reducible refine wpList_store_row (o := ⟨none, _, _, _, _, _⟩) rfl 26 (.tmp 8) (.tmp 22) rfl _ zT rfl rfl _ zT q8 (infoTc zT_size) rfl zT_one ?_)
    rw [setRow_self _ _ _ _ _ q8]
    go_wp2_with fail
    refine bodyPost_ret (v := .tuple #[.agg zT, .int .i64 4]) (results_row_tmp rfl _ _ _ _ zT (0, 0) _ _ rfl rfl q8 Tryd.underlying26 rfl (infoTc zT_size)) rfl ?_
    rw [HZ.out]; exact ⟨rfl, bel⟩
  · have d1 : decide (b < 0) = false := decide_eq_false h0
    have d2 : decide (16 ≤ b) = true := decide_eq_true (by omega)
    clear hb h0
    go_wp2_with (with_reducible refine wpList_store_row (o := ⟨none, _, _, _, _, _⟩) rfl 26 (.tmp 8) (.tmp 22) rfl _ zT rfl rfl _ zT q8 (infoTc zT_size) rfl zT_one ?_)
    rw [setRow_self _ _ _ _ _ q8]
    go_wp2_with fail
    refine bodyPost_ret (v := .tuple #[.agg zT, .int .i64 4]) (results_row_tmp rfl _ _ _ _ zT (0, 0) _ _ rfl rfl q8 Tryd.underlying26 rfl (infoTc zT_size)) rfl ?_
    rw [HZ.out]; exact ⟨rfl, bel⟩
set_option maxRecDepth 100000 in
set_option maxHeartbeats 2000000 in
theorem repl_no (cs : Array Value) (lv : Nat → List It) (vs : Nat → Int) (b : Nat) (vl : Value) (l : List It) (ver : Int) (w : World) (tab : TabAt w) (h : RdT w cs lv vs) (hsz : SzT lv) (hl : RdI w vl l) (hszl : SzI l) (hm : mayTs lv vs 16 = true) (hb16 : b < 16) (hf : mayT (b : Int) l ver = false) :
    Calls Tryd.prog 31 #[.agg cs, .int .i64 (b : Int), vl, .int .i64 ver] w (TrZ w 1) := by
  have hs := infoTc h.size
  have HT := Lib.hid h
  have HS := Lib.hid hsz
  have z0 := zeroT_run
  have z1 := zT_ne
  obtain ⟨q4, q8, -, -⟩ := two_allocs w (.cells cs 26) (.cells zT 26)
  have bel : Below w.heap.size w ((w.alloc (.cells cs 26)).alloc (.cells zT 26)) := ((Below.refl _ w).alloc (Nat.le_refl _) _).alloc (by simp) _
  have T0 := tab.below bel
  have hlw := Nat.le_refl w.heap.size
  have TM0 := fun W t h => tmay_any cs lv vs W t h HS.out
  rw [hm] at TM0
  have TM := Lib.hid TM0
  obtain ⟨al, cl, rfl, -, -, -⟩ := RdK.open hl
  have HL := Lib.hid hl
  clear h hsz tab TM0 hm hl
  have MT0 := fun W t h => mayT_any (b : Int) (.slice al l.length cl) l ver W t h hszl
  rw [hf] at MT0
  have MT := Lib.hid MT0
  have d2 : decide (16 ≤ (b : Int)) = false := decide_eq_false (by omega)
  have d3 : decide (16 ≤ b) = false := decide_eq_false (by omega)
  clear hszl MT0 hf
  obtain ⟨Z, hZ⟩ : ∃ Z, Z = TrZ w 1 := ⟨_, rfl⟩
  rw [← hZ]
  have HZ := Lib.hid hZ
  clear hZ
  go_enter Tryd.func31, Tryd.ntmps31
  go_wp2_with (with_reducible refine wpList_load_row (o := ⟨some 11, _, _, _, _, _⟩) rfl 26 (.tmp 4) rfl _ rfl _ cs (0, 0) _ q4 Tryd.underlying26 rfl hs ?_)
  refine (TM.out _ T0 (HT.out.below bel (Nat.le_refl _))).mono ?_
  rintro e w1 ⟨rfl, g⟩
  replace T0 := T0.below g
  replace q8 := (g.block _ (lt_of_block q8)).trans q8
  replace bel := chain bel g
  clear g q4
  go_wp2_with fail
  refine (MT.out _ T0 (HL.out.below bel (Nat.le_refl _))).mono ?_
  rintro e w2 ⟨rfl, g⟩
  replace T0 := T0.below g
  replace q8 := (g.block _ (lt_of_block q8)).trans q8
  replace bel := chain bel g
  clear g
  go_wp2_with (with_reducible refine wpList_store_row (o := ⟨none, _, _, _, _, _⟩) rfl 26 (.tmp 8) (.tmp 29) rfl _ zT rfl rfl _ zT q8 (infoTc zT_size) rfl zT_one ?_)
  rw [setRow_self _ _ _ _ _ q8]
  go_wp2_with fail
  refine bodyPost_ret (v := .tuple #[.agg zT, .int .i64 1]) (results_row_tmp rfl _ _ _ _ zT (0, 0) _ _ rfl rfl q8 Tryd.underlying26 rfl (infoTc zT_size)) rfl ?_
  rw [HZ.out]; exact ⟨rfl, bel⟩
set_option maxRecDepth 100000 in
set_option maxHeartbeats 2000000 in
theorem repl_yes (cs : Array Value) (lv : Nat → List It) (vs : Nat → Int) (b : Nat) (vl : Value) (l : List It) (ver : Int) (w : World) (tab : TabAt w) (h : RdT w cs lv vs) (hsz : SzT lv) (hl : RdI w vl l) (hszl : SzI l) (h1000 : l.length ≤ 1000) (hm : mayTs lv vs 16 = true) (hb16 : b < 16) (hf : mayT (b : Int) l ver = true) :
    Calls Tryd.prog 31 #[.agg cs, .int .i64 (b : Int), vl, .int .i64 ver] w (TrO w cs b l ver) := by
  have hs := infoTc h.size
  have HT := Lib.hid h
  have HS := Lib.hid hsz
  have z0 := zeroT_run
  have z1 := zT_ne
  obtain ⟨q4, q8, -, -⟩ := two_allocs w (.cells cs 26) (.cells zT 26)
  have bel : Below w.heap.size w ((w.alloc (.cells cs 26)).alloc (.cells zT 26)) := ((Below.refl _ w).alloc (Nat.le_refl _) _).alloc (by simp) _
  have T0 := tab.below bel
  have hlw := Nat.le_refl w.heap.size
  have TM0 := fun W t h => tmay_any cs lv vs W t h HS.out
  rw [hm] at TM0
  have TM := Lib.hid TM0
  obtain ⟨al, cl, rfl, -, -, -⟩ := RdK.open hl
  have HL := Lib.hid hl
  clear h hsz tab TM0 hm hl
  have MT0 := fun W t h => mayT_any (b : Int) (.slice al l.length cl) l ver W t h hszl
  rw [hf] at MT0
  have MT := Lib.hid MT0
  have d2 : decide (16 ≤ (b : Int)) = false := decide_eq_false (by omega)
  have d3 : decide (16 ≤ b) = false := decide_eq_false (by omega)
  clear hszl MT0 hf
  obtain ⟨u0, hu0, hru0⟩ := HT.out.leaf b hb16
  have HU := Lib.hid hu0
  have HV := Lib.hid (HT.out.ver b hb16)
  clear hu0 hru0
  obtain ⟨Z, hZ⟩ : ∃ Z, Z = TrO w cs b l ver := ⟨_, rfl⟩
  rw [← hZ]
  have HZ := Lib.hid hZ
  clear hZ
  go_enter Tryd.func31, Tryd.ntmps31
  go_wp2_with (with_reducible refine wpList_load_row (o := ⟨some 11, _, _, _, _, _⟩) rfl 26 (.tmp 4) rfl _ rfl _ cs (0, 0) _ q4 Tryd.underlying26 rfl hs ?_)
  refine (TM.out _ T0 (HT.out.below bel (Nat.le_refl _))).mono ?_
  rintro e w1 ⟨rfl, g⟩
  replace T0 := T0.below g
  replace q4 := (g.block _ (lt_of_block q4)).trans q4
  replace q8 := (g.block _ (lt_of_block q8)).trans q8
  replace bel := chain bel g
  clear g
  go_wp2_with fail
  refine (MT.out _ T0 (HL.out.below bel (Nat.le_refl _))).mono ?_
  rintro e w2 ⟨rfl, g⟩
  replace T0 := T0.below g
  replace q4 := (g.block _ (lt_of_block q4)).trans q4
  replace q8 := (g.block _ (lt_of_block q8)).trans q8
  replace bel := chain bel g
  clear g
  go_wp2_with fail
  have HL2 := Lib.hid (lt_of_block q8)
  refine (clone_any (.slice al l.length cl) l _ (HL.out.below bel (Nat.le_refl _)) h1000).mono ?_
  rintro e w3 ⟨u, rfl, hru, g⟩
  replace q4 := (g.block _ (lt_of_block q4)).trans q4
  replace q8 := (g.block _ (lt_of_block q8)).trans q8
  replace bel := chain bel g
  clear g
  obtain ⟨a1, n1, c1, rfl⟩ := own_slice hru
  have OWN := Lib.hid hru
  clear hru
  have e1 := (block_cell q4 b).trans HU.out
  have f1 := block_frozen q4 b
  have q41 := set_at (i := b) (u := .slice a1 n1 c1) q4
  have e2 := (block_cell q41 (16 + b)).trans (Array.getElem?_setIfInBounds_ne (by omega) |>.trans HV.out)
  have f2 := block_frozen q41 (16 + b)
  have e3 := e2
  have f3 := f2
  rw [Nat.add_comm 16 b] at e3 f3
  have hl4 := lt_of_block q4
  clear q41
  obtain ⟨CS, hCS⟩ : ∃ CS, CS = (cs.setIfInBounds b (.slice a1 n1 c1)).setIfInBounds (16 + b) (.int .i64 ver) := ⟨_, rfl⟩
  have q4b : ((w3.setCell ⟨w.heap.size, b, none⟩ (.slice a1 n1 c1)).setCell ⟨w.heap.size, 16 + b, none⟩ (.int .i64 ver)).heap[w.heap.size]? = some (.cells CS 26 (0, 0)) := by rw [hCS]; exact two_cells q4
  have q8b : ((w3.setCell ⟨w.heap.size, b, none⟩ (.slice a1 n1 c1)).setCell ⟨w.heap.size, 16 + b, none⟩ (.int .i64 ver)).heap[w.heap.size + 1]? = some (.cells zT 26 (0, 0)) := by rw [set_old (by omega), set_old (by omega)]; exact q8
  have q8c := setRow_heap _ _ _ CS _ _ q8b
  have bel9 := below_row ((bel.setCell (p := ⟨w.heap.size, b, none⟩) (Nat.le_refl _) (.slice a1 n1 c1)).setCell (p := ⟨w.heap.size, 16 + b, none⟩) (Nat.le_refl _) (.int .i64 ver)) (Nat.le_succ w.heap.size) CS
  have own9 := own_moved (w' := (((w3.setCell ⟨w.heap.size, b, none⟩ (.slice a1 n1 c1)).setCell ⟨w.heap.size, 16 + b, none⟩ (.int .i64 ver)).setRow (w.heap.size + 1) CS)) OWN.out (fun g hg => by
    have := HL2.out
    rw [setRow_other _ _ _ _ (by omega), set_old (by omega), set_old (by omega)])
  have RT := (HT.out.below bel9 (Nat.le_refl _)).put hb16 (v := ver) (own_rdk itC_len own9)
  have OWN9 := Lib.hid (own_base (b' := w.heap.size) own9 (by have := HL2.out; omega))
  have HCS := Lib.hid hCS
  rw [← hCS] at RT
  have HC2 := infoTc RT.size
  have hcs2 : zT.size = CS.size := by rw [RT.size]; rfl
  have hone := RT.one
  have BEL9 := Lib.hid bel9
  have Q8C := Lib.hid q8c
  clear RT bel9 q8c hCS own9
  go_wp2_with (first | (with_reducible refine wpList_load_row (o := ⟨some 39, _, _, _, _, _⟩) rfl 26 (.tmp 4) rfl _ rfl _ CS (0, 0) _ q4b Tryd.underlying26 rfl HC2 ?_) | (with_reducible refine wpList_store_row (o := ⟨none, _, _, _, _, _⟩) rfl 26 (.tmp 8) (.tmp 39) rfl _ CS rfl rfl _ zT q8b HC2 hcs2 hone ?_))
  refine bodyPost_ret (v := .tuple #[.agg CS, .int .i64 0]) (results_row_tmp rfl _ _ _ _ CS (0, 0) _ _ rfl rfl Q8C.out Tryd.underlying26 rfl HC2) rfl ?_
  rw [HZ.out]; exact ⟨_, by rw [HCS.out], OWN9.out, BEL9.out⟩
end Go.Proofs.YtmjedjhkhjiigaaDoor
