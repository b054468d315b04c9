/- Trunks: the chapter's examples. Written by wip/tools/gen10j.py. -/
import Derived.Test.YtmjedjhkhjiigaaDoorQSSC24
import Derived.Test.YtmjedjhkhjiigaaDoorQSSC25
namespace Go.Proofs.YtmjedjhkhjiigaaDoor
open Go Go.RowKit
set_option linter.unusedVariables false
set_option linter.unusedSimpArgs false
theorem load_row_op {P : Program} (op : Oper) (a : Act) (x : Operand) {ty : TypeId} {g : Nat} {t : TypeId} {cs : Array Value} {fr : Nat × Nat} {d : TypeDesc} {w : World} (ho : op.op = .load ty x) (hx : a.eval x = .pointer (some ⟨g, 0, none⟩)) (hg : w.heap[g]? = some (.cells cs t fr))
    (hu : P.underlying ty = some d) (hd : (match d with | .struct _ | .array _ _ => true | _ => false) = true) (hi : (P.info? ty).map (·.size) = some cs.size) : (execOp a.eval op).run P w = .ok (.value (.agg cs)) w := by
  unfold execOp
  simp only [ho, hx, Instr.loadAt, Instr.sureAddr, Sem.run_bind, Sem.run_pure, Result.andThen_ok, run_loadVar_row w g t ty cs fr d hg hu hd hi]
theorem chain1 {w a b : World} (h : Below w.heap.size w a) (g : Below w.heap.size w b) : Below w.heap.size w b := g
def x1 : It := ⟨[97], ⟨2, 1, []⟩, 5⟩
def x2 : It := ⟨[113], ⟨2, 2, []⟩, 4⟩
def lvZ : Nat → List It := fun _ => []
def vsZ : Nat → Int := fun _ => 0
def lv1 : Nat → List It := upd lvZ 1 [x1]
def vs1 : Nat → Int := upd vsZ 1 5
def lv2 : Nat → List It := upd lv1 1 []
def vs2 : Nat → Int := upd vs1 1 9
theorem szZ : SzT lvZ := fun b hb x hx => by cases hx
theorem sz1 : SzT lv1 := fun b hb x hx => by
  unfold lv1 at hx
  by_cases h : b = 1
  · subst h; rw [upd_at, List.mem_singleton] at hx; subst hx; exact ⟨by decide, by decide⟩
  · rw [upd_ne _ _ h] at hx; cases hx
theorem sz2 : SzT lv2 := fun b hb x hx => by
  unfold lv2 at hx
  by_cases h : b = 1
  · subst h; rw [upd_at] at hx; cases hx
  · rw [upd_ne _ _ h] at hx; exact sz1 b hb x hx
theorem mayZ : mayTs lvZ vsZ 16 = true := by kernel_rfl
theorem may1 : mayTs lv1 vs1 16 = true := by kernel_rfl
theorem put1E : putTE lvZ vsZ x1 = 0 := by kernel_rfl
theorem put2E : putTE lv1 vs1 x2 = 18 := by kernel_rfl
theorem del1E : delTE lv1 vs1 [97] 9 = 0 := by kernel_rfl
theorem bk1 : bkN x1.key = 1 := by kernel_rfl
theorem bk1' : bkN [97] = 1 := by kernel_rfl
theorem put1P (w : World) : PutP w zT lvZ vsZ x1 = TrO w zT 1 [x1] 5 := by
  unfold PutP; rw [if_pos put1E, bk1]; rfl
theorem put2P (w : World) (cs : Array Value) : PutP w cs lv1 vs1 x2 = TrZ w 18 := by
  unfold PutP; rw [put2E, if_neg (by decide)]
theorem del1P (w : World) (cs : Array Value) : DelP w cs lv1 vs1 [97] 9 = TrO w cs 1 [] 9 := by
  unfold DelP; rw [if_pos del1E, bk1']; rfl
theorem cnt1 : sumT List.length lv1 vs1 = 1 := by kernel_rfl
theorem cnt2 : sumT List.length lv2 vs2 = 0 := by kernel_rfl
theorem len1 : ∀ b, b < 16 → (lv1 b).length ≤ 100 := fun b _ => by
  unfold lv1 upd
  split
  · decide
  · exact Nat.zero_le _
theorem len2 : ∀ b, b < 16 → (lv2 b).length ≤ 100 := fun b h => by
  unfold lv2
  by_cases e : b = 1
  · subst e; rw [upd_at]; decide
  · rw [upd_ne _ _ e]; exact len1 b h
theorem unl1 : unlL lv1 lvZ vs1 vsZ 16 = [1] := by
  have h : ∀ i, unlB lv1 lvZ vs1 vsZ i = decide (i = 1) := by
    intro i
    unfold unlB lv1 vs1 vsZ lvZ
    by_cases e : i = 1
    · subst e; simp [upd]
    · simp [upd, e, lsEq]
  unfold unlL
  rw [List.filter_congr (fun i _ => h i)]
  decide
set_option maxRecDepth 100000 in
set_option maxHeartbeats 1000000 in
theorem awake10_any (w : World) (tab : TabAt w) : Calls Tryd.prog 18 #[] w fun e w' => e = .returned (.bool true) ∧ Below w.heap.size w w' := by
  have z0 := zeroT_run
  have z1 := zT_ne
  have TAB := Lib.hid tab
  have bel := Below.refl w.heap.size w
  go_enter Tryd.func18, Tryd.ntmps18
  go_wp2_with fail
  refine (V7.refInt_any 1 _).mono ?_
  rintro e w1 ⟨rfl, g⟩
  have bel := chain bel g
  clear g
  go_wp2_with fail
  have PP := tput_any zT lvZ vsZ x1 w1 (TAB.out.below bel) (rdt_zero _) szZ (by decide) (by decide)
  rw [put1P] at PP
  refine PP.mono ?_
  rintro e w2 ⟨u1, rfl, own1, g⟩
  have bel := chain bel g
  obtain ⟨cs1, hcs1⟩ : ∃ cs1, cs1 = (zT.setIfInBounds 1 u1).setIfInBounds (16 + 1) (.int .i64 5) := ⟨_, rfl⟩
  rw [← hcs1]
  have RT0 := (rdt_zero w2).put (b := 1) (by decide) (v := 5) (own_rdk itC_len own1)
  rw [← hcs1] at RT0
  change RdT w2 cs1 lv1 vs1 at RT0
  have hs1 := infoTc RT0.size
  have hzz : zT.size = cs1.size := by rw [RT0.size]; rfl
  have ho1 := RT0.one
  have qa := heap_alloc_new w2 (.cells zT 26)
  have RT0H := Lib.hid RT0
  clear g hcs1 own1 PP RT0
  go_wp2_with ((with_reducible refine wpList_store_row (o := ⟨none, _, _, _, _, _⟩) rfl 26 (.tmp 1) (.tmp 14) rfl _ cs1 rfl rfl _ zT qa hs1 hzz ho1 ?_); (obtain ⟨WS, hWS⟩ : ∃ WS, WS = (w2.alloc (.cells zT 26)).setRow w2.heap.size cs1 := ⟨_, rfl⟩); rw [← hWS]; (have gS : Below w2.heap.size w2 WS := by rw [hWS]; exact below_row ((Below.refl _ _).alloc (Nat.le_refl _) _) (Nat.le_refl _) cs1); (have q1 : WS.heap[w2.heap.size]? = some (.cells cs1 26 (0, 0)) := by rw [hWS]; exact setRow_heap _ _ _ cs1 _ _ qa); clear hWS qa; (have bel := chain bel gS); (have RT1 := Lib.hid (RT0H.out.below gS (Nat.le_refl _))); (have Q1 := Lib.hid q1); (have BW := Lib.hid bel); clear gS q1 bel)
  have TSW := Lib.hid (TAB.out.below BW.out)
  have P2 := Lib.hid (fun W (g : Below WS.heap.size WS W) => (put2P W cs1 ▸ tput_any cs1 lv1 vs1 x2 W (TSW.out.below g) (RT1.out.below g (Nat.le_refl _)) sz1 (by decide) (by decide) : Calls Tryd.prog _ _ W (TrZ W 18)))
  have UN := Lib.hid (fun W (g : Below WS.heap.size WS W) => (unl1 ▸ unlike_any cs1 zT lv1 lvZ vs1 vsZ W (TSW.out.below g) (RT1.out.below g (Nat.le_refl _)) (rdt_zero _) sz1 szZ may1 mayZ : Calls Tryd.prog _ _ W (OwnN W [1])))
  have DL := Lib.hid (fun W (g : Below WS.heap.size WS W) => (del1P W cs1 ▸ tdel_any cs1 lv1 vs1 [97] 9 W (TSW.out.below g) (RT1.out.below g (Nat.le_refl _)) sz1 (by decide) : Calls Tryd.prog _ _ W (TrO W cs1 1 [] 9)))
  have C17 := Lib.hid (RT1.out.ver 1 (by decide))
  have CD0 := fun W cs (g : Below WS.heap.size WS W) (h : RdT W cs lv2 vs2) => count_any cs lv2 vs2 W (TSW.out.below g) h sz2 len2
  have CT0 := fun W (g : Below WS.heap.size WS W) => count_any cs1 lv1 vs1 W (TSW.out.below g) (RT1.out.below g (Nat.le_refl _)) sz1 len1
  rw [cnt2] at CD0
  rw [cnt1] at CT0
  have CD := Lib.hid CD0
  have CT := Lib.hid CT0
  clear CD0 CT0
  go_wp2_with fail
  have hS := Below.drew (Below.refl WS.heap.size WS)
  refine gs_start (S := (fun w' => Below WS.heap.size WS w')) (by kernel_rfl) ?_
  refine gs_take (i := 0) (d := (some 17)) (v := ?_) rfl rfl (by kernel_rfl) (fun _ _ _ h => h) (by rfl) hS (fun w' hb' => ?_) ?_
  rotate_left
  · (refine load_row_op _ _ (.tmp 1) ?_ ?_ ((hb'.block _ (lt_of_block Q1.out)).trans Q1.out) Tryd.underlying26 ?_ hs1 <;> rfl); (try go_simp); (try with_reducible rfl)
  try simp only [Act.put, List.setIfInBounds_toArray, List.set_cons_zero, List.set_cons_succ]
  refine gs_run2 (i := 1) (k := 7) rfl rfl (by kernel_rfl) (by rfl) (by rfl) (fun K hK => ?_) (fun K hK => ?_)
  · skip
    go_simp; refine (V7.refInt_any 2 _).mono ?_; rintro e wr0 ⟨rfl, g⟩; have hS := chain hS g; refine hK _ _ ⟨hS, ?_⟩; clear hK K g
    try simp only [Act.put, List.setIfInBounds_toArray, List.set_cons_zero, List.set_cons_succ]
    refine gs_run2 (i := 2) (k := 7) rfl rfl (by kernel_rfl) (by rfl) (by rfl) (fun K hK => ?_) (fun K hK => ?_)
    · skip
      go_simp; refine hK _ _ ⟨hS, ?_⟩; clear hK K
      try simp only [Act.put, List.setIfInBounds_toArray, List.set_cons_zero, List.set_cons_succ]
      refine gs_run2 (i := 3) (k := 7) rfl rfl (by kernel_rfl) (by rfl) (by rfl) (fun K hK => ?_) (fun K hK => ?_)
      · skip
        go_simp; refine (P2.out _ hS).mono ?_; rintro e wr1 ⟨rfl, g⟩; have hS := chain hS g; refine hK _ _ ⟨hS, ?_⟩; clear hK K g
        try simp only [Act.put, List.setIfInBounds_toArray, List.set_cons_zero, List.set_cons_succ]
        refine gs_take (i := 4) (d := (some 16)) (v := ?_) rfl rfl (by kernel_rfl) (fun _ _ _ h => h) (by rfl) hS (fun w' hb' => ?_) ?_
        rotate_left
        · (try go_simp); (try with_reducible rfl)
        try simp only [Act.put, List.setIfInBounds_toArray, List.set_cons_zero, List.set_cons_succ]
        refine gs_take (i := 5) (d := (some 21)) (v := ?_) rfl rfl (by kernel_rfl) (fun _ _ _ h => h) (by rfl) hS (fun w' hb' => ?_) ?_
        rotate_left
        · (try go_simp); (try with_reducible rfl)
        try simp only [Act.put, List.setIfInBounds_toArray, List.set_cons_zero, List.set_cons_succ]
        refine gs_take (i := 6) (d := (some 22)) (v := ?_) rfl rfl (by kernel_rfl) (fun _ _ _ h => h) (by rfl) hS (fun w' hb' => ?_) ?_
        rotate_left
        · (try go_simp); (try with_reducible rfl)
        try simp only [Act.put, List.setIfInBounds_toArray, List.set_cons_zero, List.set_cons_succ]
        refine gs_run (i := 7) rfl (by kernel_rfl) (by rfl) (fun K hK => ?_)
        go_simp; have qz : (wr1.alloc (.cells zT 26)).heap[wr1.heap.size]? = some (.cells zT 26 (0, 0)) := heap_alloc_new wr1 (.cells zT 26); have hz := hS.size; have hS := hS.alloc hS.size (.cells zT 26); refine hK _ _ ⟨hS, ?_⟩; clear hK K
        try simp only [Act.put, List.setIfInBounds_toArray, List.set_cons_zero, List.set_cons_succ]
        refine gs_run (i := 8) rfl (by kernel_rfl) (by rfl) (fun K hK => ?_)
        refine wp_store_row 26 (.tmp 3) (.tmp 21) rfl _ zT rfl rfl _ zT qz (infoTc zT_size) rfl zT_one ?_; rw [setRow_self _ _ _ _ _ qz]; refine hK _ _ ⟨hS, ?_⟩; clear hK K
        try simp only [Act.put, List.setIfInBounds_toArray, List.set_cons_zero, List.set_cons_succ]
        refine gs_take (i := 9) (d := (some 4)) (v := ?_) rfl rfl (by kernel_rfl) (fun _ _ _ h => h) (by rfl) hS (fun w' hb' => ?_) ?_
        rotate_left
        · (try go_simp); (try with_reducible rfl)
        try simp only [Act.put, List.setIfInBounds_toArray, List.set_cons_zero, List.set_cons_succ]
        refine gs_done (by kernel_rfl) ?_
        have q1 := (hS.block _ (lt_of_block Q1.out)).trans Q1.out
        go_wp2_with ((with_reducible refine wpList_load_row (o := ⟨some 24, _, _, _, _, _⟩) rfl 26 (.tmp 1) rfl _ rfl _ cs1 (0, 0) _ q1 Tryd.underlying26 rfl hs1 ?_))
        refine (UN.out _ hS).mono ?_
        rintro e wu ⟨vu, rfl, ownu, g⟩
        have q1 := (g.block _ (lt_of_block q1)).trans q1
        have hS := chain hS g
        obtain ⟨gu, cu, rfl, hcu, hmu⟩ := slice_of_own ownu (by decide)
        have hcu := hcu
        have hmu : cu ≤ 9223372036854775807 := by unfold maxLen at hmu; omega
        have cg : wu.cell? ⟨gu, 0, none⟩ = some (.int .i64 1) := ownu.cellAt 0 (by decide)
        have lg := (ownu.lt gu rfl).2
        clear g ownu
        go_wp2_with ((with_reducible refine wpList_load_row (o := ⟨some 30, _, _, _, _, _⟩) rfl 26 (.tmp 1) rfl _ rfl _ cs1 (0, 0) _ q1 Tryd.underlying26 rfl hs1 ?_))
        refine (DL.out _ hS).mono ?_
        rintro e wd ⟨u2, rfl, own2, g⟩
        have q1 := (g.block _ (lt_of_block q1)).trans q1
        have cg := (g.cell (p := ⟨gu, 0, none⟩) lg).trans cg
        have lg := Nat.lt_of_lt_of_le lg g.size
        have hS := chain hS g
        clear g
        obtain ⟨cs2, hcs2⟩ : ∃ cs2, cs2 = (cs1.setIfInBounds 1 u2).setIfInBounds (16 + 1) (.int .i64 9) := ⟨_, rfl⟩
        rw [← hcs2]
        have RT2 := (RT1.out.below hS (Nat.le_refl _)).put (b := 1) (by decide) (v := 9) (own_rdk itC_len own2)
        rw [← hcs2] at RT2
        change RdT wd cs2 lv2 vs2 at RT2
        have hs2 := infoTc RT2.size
        have hz2 : zT.size = cs2.size := by rw [RT2.size]; rfl
        have ho2 := RT2.one
        have qd := heap_alloc_new wd (.cells zT 26)
        have RTH2 := Lib.hid RT2
        have c17 := RT2.ver 1 (by decide)
        clear hcs2 own2 RT2
        go_wp2_with (first | ((with_reducible refine wpList_load_row_g (o := ⟨some 66, _, _, _, _, _⟩) ?_ 26 (.tmp 7) rfl _ rfl _ cs2 (0, 0) _ q7 Tryd.underlying26 rfl hs2 ?_); rfl) | ((with_reducible refine wpList_store_row (o := ⟨none, _, _, _, _, _⟩) rfl 26 (.tmp 7) (.tmp 32) rfl _ cs2 rfl rfl _ zT qd hs2 hz2 ho2 ?_); (obtain ⟨W5, hW5⟩ : ∃ W5, W5 = (wd.alloc (.cells zT 26)).setRow wd.heap.size cs2 := ⟨_, rfl⟩); rw [← hW5]; (have g5 : Below wd.heap.size wd W5 := by rw [hW5]; exact below_row ((Below.refl _ _).alloc (Nat.le_refl _) _) (Nat.le_refl _) cs2); (have q7 : W5.heap[wd.heap.size]? = some (.cells cs2 26 (0, 0)) := by rw [hW5]; exact setRow_heap _ _ _ cs2 _ _ qd); clear hW5 qd; (have q1 := (g5.block _ (lt_of_block q1)).trans q1); (have cg := (g5.cell (p := ⟨gu, 0, none⟩) lg).trans cg); (have lg := Nat.lt_of_lt_of_le lg g5.size); (have hS := chain hS g5); (have RT5 := RTH2.out.below g5 (Nat.le_refl _)); (have RTH := Lib.hid RT5); clear RT5 g5; (have e1 := (block_cell q1 17).trans C17.out); (have e2 := (block_cell q7 17).trans c17); (have l1 := lt_of_block q1); (have l7 := lt_of_block q7)))
        refine (CD.out _ cs2 hS RTH.out).mono ?_
        rintro e wc ⟨rfl, g⟩
        have q1 := (g.block _ (lt_of_block q1)).trans q1
        have q7 := (g.block _ (lt_of_block q7)).trans q7
        have hS := chain hS g
        have e2 := (block_cell q7 17).trans c17
        clear g
        go_wp2_with ((with_reducible refine wpList_load_row_g (o := ⟨some 77, _, _, _, _, _⟩) ?_ 26 (.tmp 1) rfl _ rfl _ cs1 (0, 0) _ q1 Tryd.underlying26 rfl hs1 ?_); rfl)
        refine (CT.out _ hS).mono ?_
        rintro e wf ⟨rfl, g⟩
        have hS := chain hS g
        clear g
        go_wp2_with fail
        go_ret
        exact ⟨rfl, chain BW.out hS⟩
      · skip
        go_simp; have qz : (wr0.alloc (.cells zT 26)).heap[wr0.heap.size]? = some (.cells zT 26 (0, 0)) := heap_alloc_new wr0 (.cells zT 26); have hz := hS.size; have hS := hS.alloc hS.size (.cells zT 26); refine hK _ _ ⟨hS, ?_⟩; clear hK K
        try simp only [Act.put, List.setIfInBounds_toArray, List.set_cons_zero, List.set_cons_succ]
        refine gs_run (i := 3) rfl (by kernel_rfl) (by rfl) (fun K hK => ?_)
        go_simp; refine (P2.out _ hS).mono ?_; rintro e wr2 ⟨rfl, g⟩; have hS := chain hS g; have qz := (g.block _ (lt_of_block qz)).trans qz; refine hK _ _ ⟨hS, ?_⟩; clear hK K g
        try simp only [Act.put, List.setIfInBounds_toArray, List.set_cons_zero, List.set_cons_succ]
        refine gs_take (i := 4) (d := (some 16)) (v := ?_) rfl rfl (by kernel_rfl) (fun _ _ _ h => h) (by rfl) hS (fun w' hb' => ?_) ?_
        rotate_left
        · (try go_simp); (try with_reducible rfl)
        try simp only [Act.put, List.setIfInBounds_toArray, List.set_cons_zero, List.set_cons_succ]
        refine gs_take (i := 5) (d := (some 21)) (v := ?_) rfl rfl (by kernel_rfl) (fun _ _ _ h => h) (by rfl) hS (fun w' hb' => ?_) ?_
        rotate_left
        · (try go_simp); (try with_reducible rfl)
        try simp only [Act.put, List.setIfInBounds_toArray, List.set_cons_zero, List.set_cons_succ]
        refine gs_take (i := 6) (d := (some 22)) (v := ?_) rfl rfl (by kernel_rfl) (fun _ _ _ h => h) (by rfl) hS (fun w' hb' => ?_) ?_
        rotate_left
        · (try go_simp); (try with_reducible rfl)
        try simp only [Act.put, List.setIfInBounds_toArray, List.set_cons_zero, List.set_cons_succ]
        refine gs_run (i := 8) rfl (by kernel_rfl) (by rfl) (fun K hK => ?_)
        refine wp_store_row 26 (.tmp 3) (.tmp 21) rfl _ zT rfl rfl _ zT qz (infoTc zT_size) rfl zT_one ?_; rw [setRow_self _ _ _ _ _ qz]; refine hK _ _ ⟨hS, ?_⟩; clear hK K
        try simp only [Act.put, List.setIfInBounds_toArray, List.set_cons_zero, List.set_cons_succ]
        refine gs_take (i := 9) (d := (some 4)) (v := ?_) rfl rfl (by kernel_rfl) (fun _ _ _ h => h) (by rfl) hS (fun w' hb' => ?_) ?_
        rotate_left
        · (try go_simp); (try with_reducible rfl)
        try simp only [Act.put, List.setIfInBounds_toArray, List.set_cons_zero, List.set_cons_succ]
        refine gs_done (by kernel_rfl) ?_
        have q1 := (hS.block _ (lt_of_block Q1.out)).trans Q1.out
        go_wp2_with ((with_reducible refine wpList_load_row (o := ⟨some 24, _, _, _, _, _⟩) rfl 26 (.tmp 1) rfl _ rfl _ cs1 (0, 0) _ q1 Tryd.underlying26 rfl hs1 ?_))
        refine (UN.out _ hS).mono ?_
        rintro e wu ⟨vu, rfl, ownu, g⟩
        have q1 := (g.block _ (lt_of_block q1)).trans q1
        have hS := chain hS g
        obtain ⟨gu, cu, rfl, hcu, hmu⟩ := slice_of_own ownu (by decide)
        have hcu := hcu
        have hmu : cu ≤ 9223372036854775807 := by unfold maxLen at hmu; omega
        have cg : wu.cell? ⟨gu, 0, none⟩ = some (.int .i64 1) := ownu.cellAt 0 (by decide)
        have lg := (ownu.lt gu rfl).2
        clear g ownu
        go_wp2_with ((with_reducible refine wpList_load_row (o := ⟨some 30, _, _, _, _, _⟩) rfl 26 (.tmp 1) rfl _ rfl _ cs1 (0, 0) _ q1 Tryd.underlying26 rfl hs1 ?_))
        refine (DL.out _ hS).mono ?_
        rintro e wd ⟨u2, rfl, own2, g⟩
        have q1 := (g.block _ (lt_of_block q1)).trans q1
        have cg := (g.cell (p := ⟨gu, 0, none⟩) lg).trans cg
        have lg := Nat.lt_of_lt_of_le lg g.size
        have hS := chain hS g
        clear g
        obtain ⟨cs2, hcs2⟩ : ∃ cs2, cs2 = (cs1.setIfInBounds 1 u2).setIfInBounds (16 + 1) (.int .i64 9) := ⟨_, rfl⟩
        rw [← hcs2]
        have RT2 := (RT1.out.below hS (Nat.le_refl _)).put (b := 1) (by decide) (v := 9) (own_rdk itC_len own2)
        rw [← hcs2] at RT2
        change RdT wd cs2 lv2 vs2 at RT2
        have hs2 := infoTc RT2.size
        have hz2 : zT.size = cs2.size := by rw [RT2.size]; rfl
        have ho2 := RT2.one
        have qd := heap_alloc_new wd (.cells zT 26)
        have RTH2 := Lib.hid RT2
        have c17 := RT2.ver 1 (by decide)
        clear hcs2 own2 RT2
        go_wp2_with (first | ((with_reducible refine wpList_load_row_g (o := ⟨some 66, _, _, _, _, _⟩) ?_ 26 (.tmp 7) rfl _ rfl _ cs2 (0, 0) _ q7 Tryd.underlying26 rfl hs2 ?_); rfl) | ((with_reducible refine wpList_store_row (o := ⟨none, _, _, _, _, _⟩) rfl 26 (.tmp 7) (.tmp 32) rfl _ cs2 rfl rfl _ zT qd hs2 hz2 ho2 ?_); (obtain ⟨W5, hW5⟩ : ∃ W5, W5 = (wd.alloc (.cells zT 26)).setRow wd.heap.size cs2 := ⟨_, rfl⟩); rw [← hW5]; (have g5 : Below wd.heap.size wd W5 := by rw [hW5]; exact below_row ((Below.refl _ _).alloc (Nat.le_refl _) _) (Nat.le_refl _) cs2); (have q7 : W5.heap[wd.heap.size]? = some (.cells cs2 26 (0, 0)) := by rw [hW5]; exact setRow_heap _ _ _ cs2 _ _ qd); clear hW5 qd; (have q1 := (g5.block _ (lt_of_block q1)).trans q1); (have cg := (g5.cell (p := ⟨gu, 0, none⟩) lg).trans cg); (have lg := Nat.lt_of_lt_of_le lg g5.size); (have hS := chain hS g5); (have RT5 := RTH2.out.below g5 (Nat.le_refl _)); (have RTH := Lib.hid RT5); clear RT5 g5; (have e1 := (block_cell q1 17).trans C17.out); (have e2 := (block_cell q7 17).trans c17); (have l1 := lt_of_block q1); (have l7 := lt_of_block q7)))
        refine (CD.out _ cs2 hS RTH.out).mono ?_
        rintro e wc ⟨rfl, g⟩
        have q1 := (g.block _ (lt_of_block q1)).trans q1
        have q7 := (g.block _ (lt_of_block q7)).trans q7
        have hS := chain hS g
        have e2 := (block_cell q7 17).trans c17
        clear g
        go_wp2_with ((with_reducible refine wpList_load_row_g (o := ⟨some 77, _, _, _, _, _⟩) ?_ 26 (.tmp 1) rfl _ rfl _ cs1 (0, 0) _ q1 Tryd.underlying26 rfl hs1 ?_); rfl)
        refine (CT.out _ hS).mono ?_
        rintro e wf ⟨rfl, g⟩
        have hS := chain hS g
        clear g
        go_wp2_with fail
        go_ret
        exact ⟨rfl, chain BW.out hS⟩
    · skip
      go_simp; have qz : (wr0.alloc (.cells zT 26)).heap[wr0.heap.size]? = some (.cells zT 26 (0, 0)) := heap_alloc_new wr0 (.cells zT 26); have hz := hS.size; have hS := hS.alloc hS.size (.cells zT 26); refine hK _ _ ⟨hS, ?_⟩; clear hK K
      try simp only [Act.put, List.setIfInBounds_toArray, List.set_cons_zero, List.set_cons_succ]
      refine gs_run (i := 2) rfl (by kernel_rfl) (by rfl) (fun K hK => ?_)
      go_simp; refine hK _ _ ⟨hS, ?_⟩; clear hK K
      try simp only [Act.put, List.setIfInBounds_toArray, List.set_cons_zero, List.set_cons_succ]
      refine gs_run (i := 3) rfl (by kernel_rfl) (by rfl) (fun K hK => ?_)
      go_simp; refine (P2.out _ hS).mono ?_; rintro e wr2 ⟨rfl, g⟩; have hS := chain hS g; have qz := (g.block _ (lt_of_block qz)).trans qz; refine hK _ _ ⟨hS, ?_⟩; clear hK K g
      try simp only [Act.put, List.setIfInBounds_toArray, List.set_cons_zero, List.set_cons_succ]
      refine gs_take (i := 4) (d := (some 16)) (v := ?_) rfl rfl (by kernel_rfl) (fun _ _ _ h => h) (by rfl) hS (fun w' hb' => ?_) ?_
      rotate_left
      · (try go_simp); (try with_reducible rfl)
      try simp only [Act.put, List.setIfInBounds_toArray, List.set_cons_zero, List.set_cons_succ]
      refine gs_take (i := 5) (d := (some 21)) (v := ?_) rfl rfl (by kernel_rfl) (fun _ _ _ h => h) (by rfl) hS (fun w' hb' => ?_) ?_
      rotate_left
      · (try go_simp); (try with_reducible rfl)
      try simp only [Act.put, List.setIfInBounds_toArray, List.set_cons_zero, List.set_cons_succ]
      refine gs_take (i := 6) (d := (some 22)) (v := ?_) rfl rfl (by kernel_rfl) (fun _ _ _ h => h) (by rfl) hS (fun w' hb' => ?_) ?_
      rotate_left
      · (try go_simp); (try with_reducible rfl)
      try simp only [Act.put, List.setIfInBounds_toArray, List.set_cons_zero, List.set_cons_succ]
      refine gs_run (i := 8) rfl (by kernel_rfl) (by rfl) (fun K hK => ?_)
      refine wp_store_row 26 (.tmp 3) (.tmp 21) rfl _ zT rfl rfl _ zT qz (infoTc zT_size) rfl zT_one ?_; rw [setRow_self _ _ _ _ _ qz]; refine hK _ _ ⟨hS, ?_⟩; clear hK K
      try simp only [Act.put, List.setIfInBounds_toArray, List.set_cons_zero, List.set_cons_succ]
      refine gs_take (i := 9) (d := (some 4)) (v := ?_) rfl rfl (by kernel_rfl) (fun _ _ _ h => h) (by rfl) hS (fun w' hb' => ?_) ?_
      rotate_left
      · (try go_simp); (try with_reducible rfl)
      try simp only [Act.put, List.setIfInBounds_toArray, List.set_cons_zero, List.set_cons_succ]
      refine gs_done (by kernel_rfl) ?_
      have q1 := (hS.block _ (lt_of_block Q1.out)).trans Q1.out
      go_wp2_with ((with_reducible refine wpList_load_row (o := ⟨some 24, _, _, _, _, _⟩) rfl 26 (.tmp 1) rfl _ rfl _ cs1 (0, 0) _ q1 Tryd.underlying26 rfl hs1 ?_))
      refine (UN.out _ hS).mono ?_
      rintro e wu ⟨vu, rfl, ownu, g⟩
      have q1 := (g.block _ (lt_of_block q1)).trans q1
      have hS := chain hS g
      obtain ⟨gu, cu, rfl, hcu, hmu⟩ := slice_of_own ownu (by decide)
      have hcu := hcu
      have hmu : cu ≤ 9223372036854775807 := by unfold maxLen at hmu; omega
      have cg : wu.cell? ⟨gu, 0, none⟩ = some (.int .i64 1) := ownu.cellAt 0 (by decide)
      have lg := (ownu.lt gu rfl).2
      clear g ownu
      go_wp2_with ((with_reducible refine wpList_load_row (o := ⟨some 30, _, _, _, _, _⟩) rfl 26 (.tmp 1) rfl _ rfl _ cs1 (0, 0) _ q1 Tryd.underlying26 rfl hs1 ?_))
      refine (DL.out _ hS).mono ?_
      rintro e wd ⟨u2, rfl, own2, g⟩
      have q1 := (g.block _ (lt_of_block q1)).trans q1
      have cg := (g.cell (p := ⟨gu, 0, none⟩) lg).trans cg
      have lg := Nat.lt_of_lt_of_le lg g.size
      have hS := chain hS g
      clear g
      obtain ⟨cs2, hcs2⟩ : ∃ cs2, cs2 = (cs1.setIfInBounds 1 u2).setIfInBounds (16 + 1) (.int .i64 9) := ⟨_, rfl⟩
      rw [← hcs2]
      have RT2 := (RT1.out.below hS (Nat.le_refl _)).put (b := 1) (by decide) (v := 9) (own_rdk itC_len own2)
      rw [← hcs2] at RT2
      change RdT wd cs2 lv2 vs2 at RT2
      have hs2 := infoTc RT2.size
      have hz2 : zT.size = cs2.size := by rw [RT2.size]; rfl
      have ho2 := RT2.one
      have qd := heap_alloc_new wd (.cells zT 26)
      have RTH2 := Lib.hid RT2
      have c17 := RT2.ver 1 (by decide)
      clear hcs2 own2 RT2
      go_wp2_with (first | ((with_reducible refine wpList_load_row_g (o := ⟨some 66, _, _, _, _, _⟩) ?_ 26 (.tmp 7) rfl _ rfl _ cs2 (0, 0) _ q7 Tryd.underlying26 rfl hs2 ?_); rfl) | ((with_reducible refine wpList_store_row (o := ⟨none, _, _, _, _, _⟩) rfl 26 (.tmp 7) (.tmp 32) rfl _ cs2 rfl rfl _ zT qd hs2 hz2 ho2 ?_); (obtain ⟨W5, hW5⟩ : ∃ W5, W5 = (wd.alloc (.cells zT 26)).setRow wd.heap.size cs2 := ⟨_, rfl⟩); rw [← hW5]; (have g5 : Below wd.heap.size wd W5 := by rw [hW5]; exact below_row ((Below.refl _ _).alloc (Nat.le_refl _) _) (Nat.le_refl _) cs2); (have q7 : W5.heap[wd.heap.size]? = some (.cells cs2 26 (0, 0)) := by rw [hW5]; exact setRow_heap _ _ _ cs2 _ _ qd); clear hW5 qd; (have q1 := (g5.block _ (lt_of_block q1)).trans q1); (have cg := (g5.cell (p := ⟨gu, 0, none⟩) lg).trans cg); (have lg := Nat.lt_of_lt_of_le lg g5.size); (have hS := chain hS g5); (have RT5 := RTH2.out.below g5 (Nat.le_refl _)); (have RTH := Lib.hid RT5); clear RT5 g5; (have e1 := (block_cell q1 17).trans C17.out); (have e2 := (block_cell q7 17).trans c17); (have l1 := lt_of_block q1); (have l7 := lt_of_block q7)))
      refine (CD.out _ cs2 hS RTH.out).mono ?_
      rintro e wc ⟨rfl, g⟩
      have q1 := (g.block _ (lt_of_block q1)).trans q1
      have q7 := (g.block _ (lt_of_block q7)).trans q7
      have hS := chain hS g
      have e2 := (block_cell q7 17).trans c17
      clear g
      go_wp2_with ((with_reducible refine wpList_load_row_g (o := ⟨some 77, _, _, _, _, _⟩) ?_ 26 (.tmp 1) rfl _ rfl _ cs1 (0, 0) _ q1 Tryd.underlying26 rfl hs1 ?_); rfl)
      refine (CT.out _ hS).mono ?_
      rintro e wf ⟨rfl, g⟩
      have hS := chain hS g
      clear g
      go_wp2_with fail
      go_ret
      exact ⟨rfl, chain BW.out hS⟩
  · skip
    go_simp; have qz : (WS.drew.alloc (.cells zT 26)).heap[WS.heap.size]? = some (.cells zT 26 (0, 0)) := heap_alloc_new WS.drew (.cells zT 26); have hz := hS.size; have hS := hS.alloc hS.size (.cells zT 26); refine hK _ _ ⟨hS, ?_⟩; clear hK K
    try simp only [Act.put, List.setIfInBounds_toArray, List.set_cons_zero, List.set_cons_succ]
    refine gs_run (i := 1) rfl (by kernel_rfl) (by rfl) (fun K hK => ?_)
    go_simp; refine (V7.refInt_any 2 _).mono ?_; rintro e wr1 ⟨rfl, g⟩; have hS := chain hS g; have qz := (g.block _ (lt_of_block qz)).trans qz; refine hK _ _ ⟨hS, ?_⟩; clear hK K g
    try simp only [Act.put, List.setIfInBounds_toArray, List.set_cons_zero, List.set_cons_succ]
    refine gs_run (i := 2) rfl (by kernel_rfl) (by rfl) (fun K hK => ?_)
    go_simp; refine hK _ _ ⟨hS, ?_⟩; clear hK K
    try simp only [Act.put, List.setIfInBounds_toArray, List.set_cons_zero, List.set_cons_succ]
    refine gs_run (i := 3) rfl (by kernel_rfl) (by rfl) (fun K hK => ?_)
    go_simp; refine (P2.out _ hS).mono ?_; rintro e wr2 ⟨rfl, g⟩; have hS := chain hS g; have qz := (g.block _ (lt_of_block qz)).trans qz; refine hK _ _ ⟨hS, ?_⟩; clear hK K g
    try simp only [Act.put, List.setIfInBounds_toArray, List.set_cons_zero, List.set_cons_succ]
    refine gs_take (i := 4) (d := (some 16)) (v := ?_) rfl rfl (by kernel_rfl) (fun _ _ _ h => h) (by rfl) hS (fun w' hb' => ?_) ?_
    rotate_left
    · (try go_simp); (try with_reducible rfl)
    try simp only [Act.put, List.setIfInBounds_toArray, List.set_cons_zero, List.set_cons_succ]
    refine gs_take (i := 5) (d := (some 21)) (v := ?_) rfl rfl (by kernel_rfl) (fun _ _ _ h => h) (by rfl) hS (fun w' hb' => ?_) ?_
    rotate_left
    · (try go_simp); (try with_reducible rfl)
    try simp only [Act.put, List.setIfInBounds_toArray, List.set_cons_zero, List.set_cons_succ]
    refine gs_take (i := 6) (d := (some 22)) (v := ?_) rfl rfl (by kernel_rfl) (fun _ _ _ h => h) (by rfl) hS (fun w' hb' => ?_) ?_
    rotate_left
    · (try go_simp); (try with_reducible rfl)
    try simp only [Act.put, List.setIfInBounds_toArray, List.set_cons_zero, List.set_cons_succ]
    refine gs_run (i := 8) rfl (by kernel_rfl) (by rfl) (fun K hK => ?_)
    refine wp_store_row 26 (.tmp 3) (.tmp 21) rfl _ zT rfl rfl _ zT qz (infoTc zT_size) rfl zT_one ?_; rw [setRow_self _ _ _ _ _ qz]; refine hK _ _ ⟨hS, ?_⟩; clear hK K
    try simp only [Act.put, List.setIfInBounds_toArray, List.set_cons_zero, List.set_cons_succ]
    refine gs_take (i := 9) (d := (some 4)) (v := ?_) rfl rfl (by kernel_rfl) (fun _ _ _ h => h) (by rfl) hS (fun w' hb' => ?_) ?_
    rotate_left
    · (try go_simp); (try with_reducible rfl)
    try simp only [Act.put, List.setIfInBounds_toArray, List.set_cons_zero, List.set_cons_succ]
    refine gs_done (by kernel_rfl) ?_
    have q1 := (hS.block _ (lt_of_block Q1.out)).trans Q1.out
    go_wp2_with ((with_reducible refine wpList_load_row (o := ⟨some 24, _, _, _, _, _⟩) rfl 26 (.tmp 1) rfl _ rfl _ cs1 (0, 0) _ q1 Tryd.underlying26 rfl hs1 ?_))
    refine (UN.out _ hS).mono ?_
    rintro e wu ⟨vu, rfl, ownu, g⟩
    have q1 := (g.block _ (lt_of_block q1)).trans q1
    have hS := chain hS g
    obtain ⟨gu, cu, rfl, hcu, hmu⟩ := slice_of_own ownu (by decide)
    have hcu := hcu
    have hmu : cu ≤ 9223372036854775807 := by unfold maxLen at hmu; omega
    have cg : wu.cell? ⟨gu, 0, none⟩ = some (.int .i64 1) := ownu.cellAt 0 (by decide)
    have lg := (ownu.lt gu rfl).2
    clear g ownu
    go_wp2_with ((with_reducible refine wpList_load_row (o := ⟨some 30, _, _, _, _, _⟩) rfl 26 (.tmp 1) rfl _ rfl _ cs1 (0, 0) _ q1 Tryd.underlying26 rfl hs1 ?_))
    refine (DL.out _ hS).mono ?_
    rintro e wd ⟨u2, rfl, own2, g⟩
    have q1 := (g.block _ (lt_of_block q1)).trans q1
    have cg := (g.cell (p := ⟨gu, 0, none⟩) lg).trans cg
    have lg := Nat.lt_of_lt_of_le lg g.size
    have hS := chain hS g
    clear g
    obtain ⟨cs2, hcs2⟩ : ∃ cs2, cs2 = (cs1.setIfInBounds 1 u2).setIfInBounds (16 + 1) (.int .i64 9) := ⟨_, rfl⟩
    rw [← hcs2]
    have RT2 := (RT1.out.below hS (Nat.le_refl _)).put (b := 1) (by decide) (v := 9) (own_rdk itC_len own2)
    rw [← hcs2] at RT2
    change RdT wd cs2 lv2 vs2 at RT2
    have hs2 := infoTc RT2.size
    have hz2 : zT.size = cs2.size := by rw [RT2.size]; rfl
    have ho2 := RT2.one
    have qd := heap_alloc_new wd (.cells zT 26)
    have RTH2 := Lib.hid RT2
    have c17 := RT2.ver 1 (by decide)
    clear hcs2 own2 RT2
    go_wp2_with (first | ((with_reducible refine wpList_load_row_g (o := ⟨some 66, _, _, _, _, _⟩) ?_ 26 (.tmp 7) rfl _ rfl _ cs2 (0, 0) _ q7 Tryd.underlying26 rfl hs2 ?_); rfl) | ((with_reducible refine wpList_store_row (o := ⟨none, _, _, _, _, _⟩) rfl 26 (.tmp 7) (.tmp 32) rfl _ cs2 rfl rfl _ zT qd hs2 hz2 ho2 ?_); (obtain ⟨W5, hW5⟩ : ∃ W5, W5 = (wd.alloc (.cells zT 26)).setRow wd.heap.size cs2 := ⟨_, rfl⟩); rw [← hW5]; (have g5 : Below wd.heap.size wd W5 := by rw [hW5]; exact below_row ((Below.refl _ _).alloc (Nat.le_refl _) _) (Nat.le_refl _) cs2); (have q7 : W5.heap[wd.heap.size]? = some (.cells cs2 26 (0, 0)) := by rw [hW5]; exact setRow_heap _ _ _ cs2 _ _ qd); clear hW5 qd; (have q1 := (g5.block _ (lt_of_block q1)).trans q1); (have cg := (g5.cell (p := ⟨gu, 0, none⟩) lg).trans cg); (have lg := Nat.lt_of_lt_of_le lg g5.size); (have hS := chain hS g5); (have RT5 := RTH2.out.below g5 (Nat.le_refl _)); (have RTH := Lib.hid RT5); clear RT5 g5; (have e1 := (block_cell q1 17).trans C17.out); (have e2 := (block_cell q7 17).trans c17); (have l1 := lt_of_block q1); (have l7 := lt_of_block q7)))
    refine (CD.out _ cs2 hS RTH.out).mono ?_
    rintro e wc ⟨rfl, g⟩
    have q1 := (g.block _ (lt_of_block q1)).trans q1
    have q7 := (g.block _ (lt_of_block q7)).trans q7
    have hS := chain hS g
    have e2 := (block_cell q7 17).trans c17
    clear g
    go_wp2_with ((with_reducible refine wpList_load_row_g (o := ⟨some 77, _, _, _, _, _⟩) ?_ 26 (.tmp 1) rfl _ rfl _ cs1 (0, 0) _ q1 Tryd.underlying26 rfl hs1 ?_); rfl)
    refine (CT.out _ hS).mono ?_
    rintro e wf ⟨rfl, g⟩
    have hS := chain hS g
    clear g
    go_wp2_with fail
    go_ret
    exact ⟨rfl, chain BW.out hS⟩
end Go.Proofs.YtmjedjhkhjiigaaDoor
