/- Snaps: Keep, one way. Written by wip/tools/gen14g.py. -/
/- Snaps: Keep, one way. Written by wip/tools/gen14g.py. -/
import Derived.Test.YtbdfcgffkonbiaaDoorQSN40
namespace Go.Proofs.YtbdfcgffkonbiaaDoor
open Go Go.RowKit
set_option linter.unusedVariables false
set_option linter.unusedSimpArgs false
set_option maxRecDepth 100000 in
set_option maxHeartbeats 1000000 in
theorem keep_none0 (v : Value) (L : List Sn) (q : Int) (cs : Array Value) (s : St) (w : World) (tab : TabAt w) (h : RdK 36 snC w v L) (hrs : RdSn w L) (hsz : SzSn L) (hln : LenSn L) (hx : RdS w cs s) (hxz : SzT s.lv) (hxw : WfT s.lv) (hxl : ∀ b, b < 16 → (s.lv b).length ≤ 100) (hi : isSn L = true) (h0 : L.length = 0) (hn : (chk14 (keepL L (mkSn q cs s))).1 = 0) :
    Calls Tryd.prog 42 #[v, .int .i64 q, .agg cs] w (KeepP w L (mkSn q cs s)) := by
  obtain ⟨i0, hi0, hz0, hz1, hz2⟩ := snap_info
  have q5 := heap_alloc_new w (.cells cs 28)
  have bel := (Below.refl w.heap.size w).alloc (Nat.le_refl _) (.cells cs 28)
  have hiS := infoS hx.size
  have hA : snA (mkSn q cs s) = cs := mkSn_A hx.size hx.one
  have HBd : ∀ w, (Instr.build 77 #[(0, .int .i64 q), (1, .agg cs)]).run Tryd.prog w = .ok (.agg (snV (mkSn q cs s))) w := fun w => run_build w _ _ _ (built_snap hx.size hx.one)
  have HXR := Lib.hid (show RdS w (snA (mkSn q cs s)) (mkSn q cs s).s by rw [hA]; exact hx)
  have HXZ := Lib.hid (show SzT (mkSn q cs s).s.lv ∧ WfT (mkSn q cs s).s.lv from ⟨hxz, hxw⟩)
  have HXL := Lib.hid (show ∀ b, b < 16 → ((mkSn q cs s).s.lv b).length ≤ 100 from hxl)
  obtain ⟨x, hxm⟩ : ∃ x, x = mkSn q cs s := ⟨_, rfl⟩
  have hxq : x.q = q := by rw [hxm]; rfl
  rw [← hxm] at HBd HXR HXZ HXL hn ⊢
  have HBs := hbs_one x
  have IS0 := is14_any v L (w.alloc (.cells cs 28)) (tab.below bel) (h.below bel (Nat.le_refl _)) (hrs.below bel (Nat.le_refl _)) hsz hln
  obtain ⟨ao, cap, rfl, hc, hm, hr⟩ := RdK.open h
  have HRD := Lib.hid (show RdK 36 snC w (.slice ao L.length cap) L from hr)
  have HRS := Lib.hid hrs
  have HSZ := Lib.hid hsz
  have HLN := Lib.hid hln
  have HTAB := Lib.hid tab
  obtain ⟨Z, hZ⟩ : ∃ Z, Z = KeepP w L x := ⟨_, rfl⟩
  rw [← hZ]
  have HZ := Lib.hid hZ
  clear h hrs hsz hln hr hZ tab hx hxz hxw hxl hA hxm
  have HNL := Lib.hid (show ¬ (0 < L.length ∧ x.q ≤ (L.getD (L.length - 1) sn0).q) from fun h => by omega)
  have f3 : decide (0 < (L.length : Int)) = false := decide_eq_false (by omega)
  have f3n : decide (0 < L.length) = false := decide_eq_false (by omega)
  have H8 := (isSn_all hi).1
  have e8 : ((L.length : Int) == 8) = false := by simp; omega
  have d8 : decide ((L.length : Int) = 8) = false := by simp; omega
  have d8n : decide (L.length = 8) = false := by simp; omega
  have HKL := Lib.hid (show keepL L x = L ++ [x] by unfold keepL; rw [if_neg (by omega)])
  obtain ⟨OUT, hOUT⟩ : ∃ o, o = keepL L x := ⟨_, rfl⟩
  obtain ⟨N, hN⟩ : ∃ n, n = (chk14 OUT).1 := ⟨_, rfl⟩
  obtain ⟨M, hM⟩ : ∃ n, n = (chk14 OUT).2 := ⟨_, rfl⟩
  have HKE := Lib.hid (show keepE L x = N by unfold keepE; rw [if_neg (by rw [hi]; simp), if_neg HNL.out, hN, hOUT])
  have HN := Lib.hid hN
  have HM := Lib.hid hM
  have HKO := Lib.hid hOUT
  have HOUT := Lib.hid (show OUT = L ++ [x] by rw [hOUT]; exact HKL.out)
  rw [← hOUT, ← hN] at hn
  have HN0 := Lib.hid hn
  have en : ((N : Int) != 0) = false := by simp [hn]
  rw [hi] at IS0
  have IS := Lib.hid IS0
  clear IS0 hi hn hN hM hOUT hxq h0
  go_enter Tryd.func42, Tryd.ntmps42
  go_wp2_with fail
  refine IS.out.mono ?_
  rintro e w2 ⟨rfl, g⟩
  have q5 := (g.block _ (lt_of_block q5)).trans q5
  have bel := chain bel g
  clear g
  go_wp2_with fail
  have HLR := Lib.hid (HRD.out.below bel (Nat.le_refl _))
  obtain ⟨wA, hwA⟩ : ∃ wA, wA = w2 := ⟨_, rfl⟩
  subst hwA
  have HBW := Lib.hid bel.size
  have hS := (Below.refl wA.heap.size wA).drew
  have CL := fun W (g : Below wA.heap.size wA W) => clone14_any _ L W (HLR.out.below g (Nat.le_refl _)) (by omega)
  refine gs_start (S := (fun w' => Below wA.heap.size wA w')) (by kernel_rfl) ?_
  refine gs_take (i := 0) (d := (some 36)) (v := ?_) rfl rfl (by kernel_rfl) (fun _ _ _ h => h) (by rfl) hS (fun w' hb' => ?_) ?_
  rotate_left
  · (try go_simp); (try with_reducible rfl)
  try simp only [Act.put, List.setIfInBounds_toArray, List.set_cons_zero, List.set_cons_succ]
  refine gs_take (i := 2) (d := (some 38)) (v := ?_) rfl rfl (by kernel_rfl) (fun _ _ _ h => h) (by rfl) hS (fun w' hb' => ?_) ?_
  rotate_left
  · (try go_simp); (try with_reducible rfl)
  try simp only [Act.put, List.setIfInBounds_toArray, List.set_cons_zero, List.set_cons_succ]
  refine gs_take (i := 3) (d := (some 39)) (v := ?_) rfl rfl (by kernel_rfl) (fun _ _ _ h => h) (by rfl) hS (fun w' hb' => ?_) ?_
  rotate_left
  · (refine load_row_op _ _ (.tmp 5) ?_ ?_ ((hb'.block _ (lt_of_block q5)).trans q5) Tryd.underlying28 ?_ hiS <;> rfl); (try go_simp); (try with_reducible rfl)
  try simp only [Act.put, List.setIfInBounds_toArray, List.set_cons_zero, List.set_cons_succ]
  refine gs_take (i := 4) (d := (some 40)) (v := ?_) rfl rfl (by kernel_rfl) (fun _ _ _ h => h) (by rfl) hS (fun w' hb' => ?_) ?_
  rotate_left
  · (refine build2_op (t := 77) (r := .agg (snV x)) (u := .int .i64 q) (v := .agg cs) _ _ (.tmp 38) (.tmp 39) ?_ ?_ ?_ (HBd _) <;> rfl); (try go_simp); (try with_reducible rfl)
  try simp only [Act.put, List.setIfInBounds_toArray, List.set_cons_zero, List.set_cons_succ]
  refine gs_run2 (i := 1) (k := 5) rfl rfl (by kernel_rfl) (by rfl) (by rfl) (fun K hK => ?_) (fun K hK => ?_)
  · skip
    go_simp
    refine (CL _ hS).mono ?_
    rintro e wC ⟨vc, rfl, own, g⟩
    have own := own_base own hS.size
    have hS2 := hS.trans (g.mono hS.size)
    refine hK _ _ ⟨hS2, ?_⟩
    clear hK K g hS
    have hS := hS2
    clear hS2
    try simp only [Act.put, List.setIfInBounds_toArray, List.set_cons_zero, List.set_cons_succ]
    refine gs_run (i := 5) rfl (by kernel_rfl) (by rfl) (fun K hK => ?_)
    refine op_build1 70 (.tmp 40) rfl (snV x) rfl _ _ (HBs _) ?_
    have hS2 := hS.alloc hS.size (.cells (snV x) 77)
    have q8 := heap_alloc_new (wC) (.cells (snV x) 77)
    have own := own.alloc (.cells (snV x) 77)
    refine hK _ _ ⟨hS2, ?_⟩
    clear hK K hS
    have hS := hS2
    clear hS2
    try simp only [Act.put, List.setIfInBounds_toArray, List.set_cons_zero, List.set_cons_succ]
    refine gs_run (i := 6) rfl (by kernel_rfl) (by rfl) (fun K hK => ?_)
    obtain ⟨v9, w9, hrun, own9, gr⟩ := app_sn _ _ _ _ own _ x q8 hS.size (by first | omega | (simp; omega))
    have hS2 := grown_below hS (Nat.le_refl _) own gr
    refine op_append (.tmp 37) (.tmp 41) 70 70 rfl rfl _ _ v9 w9 rfl rfl hrun ?_
    refine hK _ _ ⟨hS2, ?_⟩
    clear hK K hS hrun gr own q8
    have hS := hS2
    clear hS2
    try simp only [Act.put, List.setIfInBounds_toArray, List.set_cons_zero, List.set_cons_succ]
    refine gs_take (i := 7) (d := (some 8)) (v := ?_) rfl rfl (by kernel_rfl) (fun _ _ _ h => h) (by rfl) hS (fun w' hb' => ?_) ?_
    rotate_left
    · (try go_simp); (try with_reducible rfl)
    try simp only [Act.put, List.setIfInBounds_toArray, List.set_cons_zero, List.set_cons_succ]
    refine gs_done (by kernel_rfl) ?_
    have bel := chain bel hS
    have CK0 := check14_any v9 OUT w9 (HTAB.out.below bel) (by rw [HOUT.out]; exact own_rdk snC_len own9) (by rw [HKO.out]; exact RdSn.keep (HRS.out.below bel (Nat.le_refl _)) (HXR.out.below bel (Nat.le_refl _))) (by rw [HKO.out]; exact keep_all HSZ.out HXZ.out) (by rw [HKO.out]; exact keep_all HLN.out HXL.out)
    rw [← HN.out, ← HM.out] at CK0
    have CK := Lib.hid CK0
    have own9 := own_base own9 HBW.out
    rw [← HOUT.out] at own9
    have OWN9 := Lib.hid own9
    clear CK0 own9
    go_wp2_with fail
    refine CK.out.mono ?_
    rintro e wz ⟨rfl, g⟩
    have OWNZ := Lib.hid (own_keep OWN9.out g)
    have bel := chain bel g
    clear g OWN9
    go_wp2_with fail
    show Z (.returned _) _
    rw [HZ.out]
    exact ⟨fun _ => ⟨v9, by first | rfl | (rw [HN0.out]; rfl), by rw [← HKO.out]; exact OWNZ.out⟩, fun h => absurd (by rw [HKE.out, HN0.out]) h, bel⟩
  · skip
    refine op_build1 70 (.tmp 40) rfl (snV x) rfl _ _ (HBs _) ?_
    have hS2 := hS.alloc hS.size (.cells (snV x) 77)
    have q8 := heap_alloc_new (wA.drew) (.cells (snV x) 77)
    refine hK _ _ ⟨hS2, ?_⟩
    clear hK K hS
    have hS := hS2
    clear hS2
    try simp only [Act.put, List.setIfInBounds_toArray, List.set_cons_zero, List.set_cons_succ]
    refine gs_run (i := 1) rfl (by kernel_rfl) (by rfl) (fun K hK => ?_)
    go_simp
    refine (CL _ hS).mono ?_
    rintro e wC ⟨vc, rfl, own, g⟩
    have own := own_base own hS.size
    have hS2 := hS.trans (g.mono hS.size)
    have q8 := (g.block _ (lt_of_block q8)).trans q8
    refine hK _ _ ⟨hS2, ?_⟩
    clear hK K g hS
    have hS := hS2
    clear hS2
    try simp only [Act.put, List.setIfInBounds_toArray, List.set_cons_zero, List.set_cons_succ]
    refine gs_run (i := 6) rfl (by kernel_rfl) (by rfl) (fun K hK => ?_)
    obtain ⟨v9, w9, hrun, own9, gr⟩ := app_sn _ _ _ _ own _ x q8 hS.size (by first | omega | (simp; omega))
    have hS2 := grown_below hS (Nat.le_refl _) own gr
    refine op_append (.tmp 37) (.tmp 41) 70 70 rfl rfl _ _ v9 w9 rfl rfl hrun ?_
    refine hK _ _ ⟨hS2, ?_⟩
    clear hK K hS hrun gr own q8
    have hS := hS2
    clear hS2
    try simp only [Act.put, List.setIfInBounds_toArray, List.set_cons_zero, List.set_cons_succ]
    refine gs_take (i := 7) (d := (some 8)) (v := ?_) rfl rfl (by kernel_rfl) (fun _ _ _ h => h) (by rfl) hS (fun w' hb' => ?_) ?_
    rotate_left
    · (try go_simp); (try with_reducible rfl)
    try simp only [Act.put, List.setIfInBounds_toArray, List.set_cons_zero, List.set_cons_succ]
    refine gs_done (by kernel_rfl) ?_
    have bel := chain bel hS
    have CK0 := check14_any v9 OUT w9 (HTAB.out.below bel) (by rw [HOUT.out]; exact own_rdk snC_len own9) (by rw [HKO.out]; exact RdSn.keep (HRS.out.below bel (Nat.le_refl _)) (HXR.out.below bel (Nat.le_refl _))) (by rw [HKO.out]; exact keep_all HSZ.out HXZ.out) (by rw [HKO.out]; exact keep_all HLN.out HXL.out)
    rw [← HN.out, ← HM.out] at CK0
    have CK := Lib.hid CK0
    have own9 := own_base own9 HBW.out
    rw [← HOUT.out] at own9
    have OWN9 := Lib.hid own9
    clear CK0 own9
    go_wp2_with fail
    refine CK.out.mono ?_
    rintro e wz ⟨rfl, g⟩
    have OWNZ := Lib.hid (own_keep OWN9.out g)
    have bel := chain bel g
    clear g OWN9
    go_wp2_with fail
    show Z (.returned _) _
    rw [HZ.out]
    exact ⟨fun _ => ⟨v9, by first | rfl | (rw [HN0.out]; rfl), by rw [← HKO.out]; exact OWNZ.out⟩, fun h => absurd (by rw [HKE.out, HN0.out]) h, bel⟩
end Go.Proofs.YtbdfcgffkonbiaaDoor
namespace Go.Proofs.YtbdfcgffkonbiaaDoor
open Go Go.RowKit
set_option linter.unusedVariables false
set_option linter.unusedSimpArgs false
set_option maxRecDepth 100000 in
set_option maxHeartbeats 1000000 in
theorem keep_last0 (v : Value) (L : List Sn) (q : Int) (cs : Array Value) (s : St) (w : World) (tab : TabAt w) (h : RdK 36 snC w v L) (hrs : RdSn w L) (hsz : SzSn L) (hln : LenSn L) (hx : RdS w cs s) (hxz : SzT s.lv) (hxw : WfT s.lv) (hxl : ∀ b, b < 16 → (s.lv b).length ≤ 100) (hi : isSn L = true) (h0 : 0 < L.length) (h8 : L.length ≠ 8) (hq : ¬ q ≤ (L.getD (L.length - 1) sn0).q) (hn : (chk14 (keepL L (mkSn q cs s))).1 = 0) :
    Calls Tryd.prog 42 #[v, .int .i64 q, .agg cs] w (KeepP w L (mkSn q cs s)) := by
  obtain ⟨i0, hi0, hz0, hz1, hz2⟩ := snap_info
  have q5 := heap_alloc_new w (.cells cs 28)
  have bel := (Below.refl w.heap.size w).alloc (Nat.le_refl _) (.cells cs 28)
  have hiS := infoS hx.size
  have hA : snA (mkSn q cs s) = cs := mkSn_A hx.size hx.one
  have HBd : ∀ w, (Instr.build 77 #[(0, .int .i64 q), (1, .agg cs)]).run Tryd.prog w = .ok (.agg (snV (mkSn q cs s))) w := fun w => run_build w _ _ _ (built_snap hx.size hx.one)
  have HXR := Lib.hid (show RdS w (snA (mkSn q cs s)) (mkSn q cs s).s by rw [hA]; exact hx)
  have HXZ := Lib.hid (show SzT (mkSn q cs s).s.lv ∧ WfT (mkSn q cs s).s.lv from ⟨hxz, hxw⟩)
  have HXL := Lib.hid (show ∀ b, b < 16 → ((mkSn q cs s).s.lv b).length ≤ 100 from hxl)
  obtain ⟨x, hxm⟩ : ∃ x, x = mkSn q cs s := ⟨_, rfl⟩
  have hxq : x.q = q := by rw [hxm]; rfl
  rw [← hxm] at HBd HXR HXZ HXL hn ⊢
  have HBs := hbs_one x
  have IS0 := is14_any v L (w.alloc (.cells cs 28)) (tab.below bel) (h.below bel (Nat.le_refl _)) (hrs.below bel (Nat.le_refl _)) hsz hln
  obtain ⟨ao, cap, rfl, hc, hm, hr⟩ := RdK.open h
  have HRD := Lib.hid (show RdK 36 snC w (.slice ao L.length cap) L from hr)
  have HRS := Lib.hid hrs
  have HSZ := Lib.hid hsz
  have HLN := Lib.hid hln
  have HTAB := Lib.hid tab
  obtain ⟨Z, hZ⟩ : ∃ Z, Z = KeepP w L x := ⟨_, rfl⟩
  rw [← hZ]
  have HZ := Lib.hid hZ
  clear h hrs hsz hln hr hZ tab hx hxz hxw hxl hA hxm
  obtain ⟨m, hm1⟩ : ∃ m, L.length = m + 1 := ⟨L.length - 1, by omega⟩
  have hml : m < L.length := by omega
  have f1 : IntKind.i64.wrap ((L.length : Int) - 1) = (m : Int) := by rw [IntKind.wrap_i64]; omega
  have f2 : (L.length : Int) - 1 = (m : Int) := by omega
  have f5 : IntKind.i64.wrap (m : Int) = (m : Int) := by rw [IntKind.wrap_i64]; omega
  have f4 : (m : Int) < L.length := by omega
  have f3 : decide (0 < (L.length : Int)) = true := decide_eq_true (by omega)
  have f3n : decide (0 < L.length) = true := decide_eq_true (by omega)
  obtain ⟨y, hy⟩ : ∃ y, y = L[m]'hml := ⟨_, rfl⟩
  have HY := Lib.hid (show (L.getD (L.length - 1) sn0) = y by rw [hm1, Nat.add_sub_cancel, getD_at hml, hy])
  have HM1 := Lib.hid hm1
  have HYL := Lib.hid hy
  clear hy hm1
  rw [HY.out] at hq
  have HNL := Lib.hid (show ¬ (0 < L.length ∧ x.q ≤ (L.getD (L.length - 1) sn0).q) by rw [HY.out, hxq]; exact fun h => by omega)
  have tq : decide (q ≤ y.q) = false := decide_eq_false (by omega)
  clear hq
  have H8 := (isSn_all hi).1
  have e8 : ((L.length : Int) == 8) = false := by simp; omega
  have d8 : decide ((L.length : Int) = 8) = false := by simp; omega
  have d8n : decide (L.length = 8) = false := by simp; omega
  have HKL := Lib.hid (show keepL L x = L ++ [x] by unfold keepL; rw [if_neg (by omega)])
  obtain ⟨OUT, hOUT⟩ : ∃ o, o = keepL L x := ⟨_, rfl⟩
  obtain ⟨N, hN⟩ : ∃ n, n = (chk14 OUT).1 := ⟨_, rfl⟩
  obtain ⟨M, hM⟩ : ∃ n, n = (chk14 OUT).2 := ⟨_, rfl⟩
  have HKE := Lib.hid (show keepE L x = N by unfold keepE; rw [if_neg (by rw [hi]; simp), if_neg HNL.out, hN, hOUT])
  have HN := Lib.hid hN
  have HM := Lib.hid hM
  have HKO := Lib.hid hOUT
  have HOUT := Lib.hid (show OUT = L ++ [x] by rw [hOUT]; exact HKL.out)
  rw [← hOUT, ← hN] at hn
  have HN0 := Lib.hid hn
  have en : ((N : Int) != 0) = false := by simp [hn]
  rw [hi] at IS0
  have IS := Lib.hid IS0
  clear IS0 hi hn hN hM hOUT hxq
  go_enter Tryd.func42, Tryd.ntmps42
  go_wp2_with fail
  refine IS.out.mono ?_
  rintro e w2 ⟨rfl, g⟩
  have q5 := (g.block _ (lt_of_block q5)).trans q5
  have bel := chain bel g
  clear g
  obtain ⟨b, off, rfl, hb, hcy0⟩ := RdK.cell snC_len (HRD.out.below bel (Nat.le_refl _)) m hml
  rw [← HYL.out] at hcy0
  have qm := sn_q (show ∀ i, i < 36 → w2.cell? ⟨b, off + m * 36 + i, none⟩ = (snC y)[i]? from fun i hi => by rw [Nat.add_assoc]; exact hcy0 i hi)
  clear hcy0
  go_wp2_with fail
  have HLR := Lib.hid (HRD.out.below bel (Nat.le_refl _))
  obtain ⟨wA, hwA⟩ : ∃ wA, wA = w2 := ⟨_, rfl⟩
  subst hwA
  have HBW := Lib.hid bel.size
  have hS := (Below.refl wA.heap.size wA).drew
  have CL := fun W (g : Below wA.heap.size wA W) => clone14_any _ L W (HLR.out.below g (Nat.le_refl _)) (by omega)
  refine gs_start (S := (fun w' => Below wA.heap.size wA w')) (by kernel_rfl) ?_
  refine gs_take (i := 0) (d := (some 36)) (v := ?_) rfl rfl (by kernel_rfl) (fun _ _ _ h => h) (by rfl) hS (fun w' hb' => ?_) ?_
  rotate_left
  · (try go_simp); (try with_reducible rfl)
  try simp only [Act.put, List.setIfInBounds_toArray, List.set_cons_zero, List.set_cons_succ]
  refine gs_take (i := 2) (d := (some 38)) (v := ?_) rfl rfl (by kernel_rfl) (fun _ _ _ h => h) (by rfl) hS (fun w' hb' => ?_) ?_
  rotate_left
  · (try go_simp); (try with_reducible rfl)
  try simp only [Act.put, List.setIfInBounds_toArray, List.set_cons_zero, List.set_cons_succ]
  refine gs_take (i := 3) (d := (some 39)) (v := ?_) rfl rfl (by kernel_rfl) (fun _ _ _ h => h) (by rfl) hS (fun w' hb' => ?_) ?_
  rotate_left
  · (refine load_row_op _ _ (.tmp 5) ?_ ?_ ((hb'.block _ (lt_of_block q5)).trans q5) Tryd.underlying28 ?_ hiS <;> rfl); (try go_simp); (try with_reducible rfl)
  try simp only [Act.put, List.setIfInBounds_toArray, List.set_cons_zero, List.set_cons_succ]
  refine gs_take (i := 4) (d := (some 40)) (v := ?_) rfl rfl (by kernel_rfl) (fun _ _ _ h => h) (by rfl) hS (fun w' hb' => ?_) ?_
  rotate_left
  · (refine build2_op (t := 77) (r := .agg (snV x)) (u := .int .i64 q) (v := .agg cs) _ _ (.tmp 38) (.tmp 39) ?_ ?_ ?_ (HBd _) <;> rfl); (try go_simp); (try with_reducible rfl)
  try simp only [Act.put, List.setIfInBounds_toArray, List.set_cons_zero, List.set_cons_succ]
  refine gs_run2 (i := 1) (k := 5) rfl rfl (by kernel_rfl) (by rfl) (by rfl) (fun K hK => ?_) (fun K hK => ?_)
  · skip
    go_simp
    refine (CL _ hS).mono ?_
    rintro e wC ⟨vc, rfl, own, g⟩
    have own := own_base own hS.size
    have hS2 := hS.trans (g.mono hS.size)
    refine hK _ _ ⟨hS2, ?_⟩
    clear hK K g hS
    have hS := hS2
    clear hS2
    try simp only [Act.put, List.setIfInBounds_toArray, List.set_cons_zero, List.set_cons_succ]
    refine gs_run (i := 5) rfl (by kernel_rfl) (by rfl) (fun K hK => ?_)
    refine op_build1 70 (.tmp 40) rfl (snV x) rfl _ _ (HBs _) ?_
    have hS2 := hS.alloc hS.size (.cells (snV x) 77)
    have q8 := heap_alloc_new (wC) (.cells (snV x) 77)
    have own := own.alloc (.cells (snV x) 77)
    refine hK _ _ ⟨hS2, ?_⟩
    clear hK K hS
    have hS := hS2
    clear hS2
    try simp only [Act.put, List.setIfInBounds_toArray, List.set_cons_zero, List.set_cons_succ]
    refine gs_run (i := 6) rfl (by kernel_rfl) (by rfl) (fun K hK => ?_)
    obtain ⟨v9, w9, hrun, own9, gr⟩ := app_sn _ _ _ _ own _ x q8 hS.size (by first | omega | (simp; omega))
    have hS2 := grown_below hS (Nat.le_refl _) own gr
    refine op_append (.tmp 37) (.tmp 41) 70 70 rfl rfl _ _ v9 w9 rfl rfl hrun ?_
    refine hK _ _ ⟨hS2, ?_⟩
    clear hK K hS hrun gr own q8
    have hS := hS2
    clear hS2
    try simp only [Act.put, List.setIfInBounds_toArray, List.set_cons_zero, List.set_cons_succ]
    refine gs_take (i := 7) (d := (some 8)) (v := ?_) rfl rfl (by kernel_rfl) (fun _ _ _ h => h) (by rfl) hS (fun w' hb' => ?_) ?_
    rotate_left
    · (try go_simp); (try with_reducible rfl)
    try simp only [Act.put, List.setIfInBounds_toArray, List.set_cons_zero, List.set_cons_succ]
    refine gs_done (by kernel_rfl) ?_
    have bel := chain bel hS
    have CK0 := check14_any v9 OUT w9 (HTAB.out.below bel) (by rw [HOUT.out]; exact own_rdk snC_len own9) (by rw [HKO.out]; exact RdSn.keep (HRS.out.below bel (Nat.le_refl _)) (HXR.out.below bel (Nat.le_refl _))) (by rw [HKO.out]; exact keep_all HSZ.out HXZ.out) (by rw [HKO.out]; exact keep_all HLN.out HXL.out)
    rw [← HN.out, ← HM.out] at CK0
    have CK := Lib.hid CK0
    have own9 := own_base own9 HBW.out
    rw [← HOUT.out] at own9
    have OWN9 := Lib.hid own9
    clear CK0 own9
    go_wp2_with fail
    refine CK.out.mono ?_
    rintro e wz ⟨rfl, g⟩
    have OWNZ := Lib.hid (own_keep OWN9.out g)
    have bel := chain bel g
    clear g OWN9
    go_wp2_with fail
    show Z (.returned _) _
    rw [HZ.out]
    exact ⟨fun _ => ⟨v9, by first | rfl | (rw [HN0.out]; rfl), by rw [← HKO.out]; exact OWNZ.out⟩, fun h => absurd (by rw [HKE.out, HN0.out]) h, bel⟩
  · skip
    refine op_build1 70 (.tmp 40) rfl (snV x) rfl _ _ (HBs _) ?_
    have hS2 := hS.alloc hS.size (.cells (snV x) 77)
    have q8 := heap_alloc_new (wA.drew) (.cells (snV x) 77)
    refine hK _ _ ⟨hS2, ?_⟩
    clear hK K hS
    have hS := hS2
    clear hS2
    try simp only [Act.put, List.setIfInBounds_toArray, List.set_cons_zero, List.set_cons_succ]
    refine gs_run (i := 1) rfl (by kernel_rfl) (by rfl) (fun K hK => ?_)
    go_simp
    refine (CL _ hS).mono ?_
    rintro e wC ⟨vc, rfl, own, g⟩
    have own := own_base own hS.size
    have hS2 := hS.trans (g.mono hS.size)
    have q8 := (g.block _ (lt_of_block q8)).trans q8
    refine hK _ _ ⟨hS2, ?_⟩
    clear hK K g hS
    have hS := hS2
    clear hS2
    try simp only [Act.put, List.setIfInBounds_toArray, List.set_cons_zero, List.set_cons_succ]
    refine gs_run (i := 6) rfl (by kernel_rfl) (by rfl) (fun K hK => ?_)
    obtain ⟨v9, w9, hrun, own9, gr⟩ := app_sn _ _ _ _ own _ x q8 hS.size (by first | omega | (simp; omega))
    have hS2 := grown_below hS (Nat.le_refl _) own gr
    refine op_append (.tmp 37) (.tmp 41) 70 70 rfl rfl _ _ v9 w9 rfl rfl hrun ?_
    refine hK _ _ ⟨hS2, ?_⟩
    clear hK K hS hrun gr own q8
    have hS := hS2
    clear hS2
    try simp only [Act.put, List.setIfInBounds_toArray, List.set_cons_zero, List.set_cons_succ]
    refine gs_take (i := 7) (d := (some 8)) (v := ?_) rfl rfl (by kernel_rfl) (fun _ _ _ h => h) (by rfl) hS (fun w' hb' => ?_) ?_
    rotate_left
    · (try go_simp); (try with_reducible rfl)
    try simp only [Act.put, List.setIfInBounds_toArray, List.set_cons_zero, List.set_cons_succ]
    refine gs_done (by kernel_rfl) ?_
    have bel := chain bel hS
    have CK0 := check14_any v9 OUT w9 (HTAB.out.below bel) (by rw [HOUT.out]; exact own_rdk snC_len own9) (by rw [HKO.out]; exact RdSn.keep (HRS.out.below bel (Nat.le_refl _)) (HXR.out.below bel (Nat.le_refl _))) (by rw [HKO.out]; exact keep_all HSZ.out HXZ.out) (by rw [HKO.out]; exact keep_all HLN.out HXL.out)
    rw [← HN.out, ← HM.out] at CK0
    have CK := Lib.hid CK0
    have own9 := own_base own9 HBW.out
    rw [← HOUT.out] at own9
    have OWN9 := Lib.hid own9
    clear CK0 own9
    go_wp2_with fail
    refine CK.out.mono ?_
    rintro e wz ⟨rfl, g⟩
    have OWNZ := Lib.hid (own_keep OWN9.out g)
    have bel := chain bel g
    clear g OWN9
    go_wp2_with fail
    show Z (.returned _) _
    rw [HZ.out]
    exact ⟨fun _ => ⟨v9, by first | rfl | (rw [HN0.out]; rfl), by rw [← HKO.out]; exact OWNZ.out⟩, fun h => absurd (by rw [HKE.out, HN0.out]) h, bel⟩
end Go.Proofs.YtbdfcgffkonbiaaDoor
