/- Snaps: the law SnapKeeps. Written by wip/tools/gen14v.py. -/
import Derived.Test.YtbdfcgffkonbiaaDoorQSK3
namespace Go.Proofs.YtbdfcgffkonbiaaDoor
open Go Go.RowKit
set_option linter.unusedVariables false
set_option linter.unusedSimpArgs false
def xm7 : Sn := mkSn (-7) zS stZ
theorem built_m7 : Tryd.prog.built 77 [(0, .int .i64 (-7))] = some (snV xm7) := by kernel_rfl
theorem hbm7 (w : World) : (Instr.build 77 #[(0, .int .i64 (-7))]).run Tryd.prog w = .ok (.agg (snV xm7)) w := run_build w _ _ _ built_m7
theorem wpList_buildp {P : Program} {ops : Array Oper} {rest : List Oper} {o : Oper} {a : Act} {w : World} {Q : Exit → Act → World → Prop} (hgd : o.guard = none) (t : TypeId) (x : Operand) (ho : o.op = .build t #[(0, x)]) (u r : Value) (hx : a.eval x = u)
    (hrun : (Instr.build t #[(0, u)]).run P w = .ok r w) (h : wpList P ops Q rest (a.put o.dst r) w) : wpList P ops Q (o :: rest) a w :=
  wpList_plain hgd fun _ hK => by
    have fin := hK _ _ h
    unfold Oper.wp execOp
    simp [ho, hx, hrun, Result.andThen]
    exact fin
theorem slice_to {P : Program} (T e : TypeId) (ti : TypeInfo) (ht : P.underlying T = some (.slice e)) (hi : P.info? e = some ti) (b n c m : Nat) (hm : m ≤ c) (hc : 0 < c) (w : World) :
    (Instr.sliceAt T (.slice (some ⟨b, 0, none⟩) n c) none (some (.int .i64 (m : Int))) none).run P w = .ok (.slice (some ⟨b, 0, none⟩) m c) w := by
  have b1 : (0 : Int) ≤ (m : Int) := by omega
  have b2 : (m : Int) ≤ (c : Int) := by omega
  have hne : ¬ c = 0 := by omega
  simp [Instr.sliceAt, Instr.slice, run_underlying ht, Instr.sliceBounds, Instr.sliceBound, asIntOf, b1, b2, hm, hne, sizeOf, typeInfo, hi, Result.andThen, Addr.add]
theorem slice_to_op {P : Program} (op : Oper) (a : Act) {T : TypeId} (s y : Operand) {u v r : Value} {w : World} (ho : op.op = .slice T s none (some y) none) (hs : a.eval s = u) (hy : a.eval y = v)
    (hrun : (Instr.sliceAt T u none (some v) none).run P w = .ok r w) : (execOp a.eval op).run P w = .ok (.value r) w := by
  unfold execOp
  simp [ho, hs, hy, hrun, Result.andThen]
theorem wpList_slice_g {P : Program} {ops : Array Oper} {rest : List Oper} {o : Oper} {a : Act} {w : World} {Q : Exit → Act → World → Prop} (hw : Region.wanted o (yielded ops a.tmps) = true) (T : TypeId) (s y : Operand) (ho : o.op = .slice T s none (some y) none) (u v : Value) {r : Value} (hs : a.eval s = u) (hy : a.eval y = v)
    (hrun : (Instr.sliceAt T u none (some v) none).run P w = .ok r w) (h : wpList P ops Q rest (a.put o.dst r) w) : wpList P ops Q (o :: rest) a w := by
  simp only [wpList, hw, if_true]
  refine .inl ?_
  unfold Oper.wp execOp
  simp [ho, hs, hy, hrun, Result.andThen]
  exact h
set_option maxRecDepth 100000 in
set_option maxHeartbeats 1000000 in
theorem snapkeeps_any (v : Value) (L : List Sn) (q : Int) (cs : Array Value) (s : St) (w : World) (tab : TabAt w) (h : RdK 36 snC w v L) (hrs : RdSn w L) (hsz : SzSn L) (hx : RdS w cs s) (hxz : SzT s.lv) (hxw : WfT s.lv) :
    Calls Tryd.prog 9 #[v, .int .i64 q, .agg cs] w fun e w' => e = .returned (.bool true) ∧ Below w.heap.size w w' := by
  have HTAB := Lib.hid tab
  have q5 := heap_alloc_new w (.cells cs 28)
  have bel := (Below.refl w.heap.size w).alloc (Nat.le_refl _) (.cells cs 28)
  obtain ⟨w0, hw0⟩ : ∃ W, W = w.alloc (.cells cs 28) := ⟨_, rfl⟩
  have hs0 : w0.heap.size = w.heap.size + 1 := by rw [hw0]; exact World.size_alloc _ _
  have HW0S := Lib.hid hs0
  rw [← hw0] at q5 bel
  have HCS := Lib.hid hx.size
  have hiS := infoS hx.size
  have FW := Lib.hid (fun W (g : Below w.heap.size w W) => few14_any v L W (h.below g (Nat.le_refl _)) (hrs.below g (Nat.le_refl _)) hsz)
  have FX := Lib.hid (fun W (g : Below w.heap.size w W) => few13_any cs s W (hx.below g (Nat.le_refl _)) hxz)
  obtain ⟨ao, nn, cap, rfl⟩ : ∃ a n c, v = .slice a n c := by obtain ⟨a, c, e, _⟩ := h; exact ⟨_, _, _, e⟩
  have z0 := zeroS_run
  have z1 := zS_ne
  have hizS := infoS zS_size
  have hozS := zS_one
  have HWX := Lib.hid hxw
  clear h hrs hsz tab hx hxz hxw hs0
  go_enter Tryd.func9, Tryd.ntmps9
  go_wp2_with fail
  rw [← hw0]
  clear hw0
  refine t_start 5 (by kernel_rfl) ?_
  refine t_take (i := 0) (d := (some 12)) (v := ?_) rfl rfl (by kernel_rfl) (fun _ _ _ h => h) (by rfl) (fun w' hb' => ?_) ?_
  rotate_left
  · (try go_simp); (try with_reducible rfl)
  try simp only [Act.put, List.setIfInBounds_toArray, List.set_cons_zero, List.set_cons_succ]
  refine t_take (i := 2) (d := (some 14)) (v := ?_) rfl rfl (by kernel_rfl) (fun _ _ _ h => h) (by rfl) (fun w' hb' => ?_) ?_
  rotate_left
  · (refine load_row_op _ _ (.tmp 5) ?_ ?_ ((hb'.block _ (lt_of_block q5)).trans q5) Tryd.underlying28 ?_ hiS <;> rfl); (try go_simp); (try with_reducible rfl)
  try simp only [Act.put, List.setIfInBounds_toArray, List.set_cons_zero, List.set_cons_succ]
  refine t_run (i := 1) rfl (by kernel_rfl) (by kernel_rfl) (by rfl) (fun K hK => ?_)
  go_simp; refine (FW.out _ (Below.drew bel)).mono ?_; rintro e w2 ⟨v1, L1, rfl, own, fw, h10, g⟩; have gg := Below.trans (Below.drew (Below.refl w0.heap.size w0)) (g.mono (Nat.le_refl _)); have q5 := (gg.block _ (lt_of_block q5)).trans q5; have own : w2.ownsRow w0.heap.size 77 36 v1 L1.length (L1.flatMap snC) := own; have fw : FwSn w0.heap.size w2 L1 := fw; have bel := chain bel gg; have hzz : w0.heap.size ≤ w2.heap.size := gg.size; refine hK _ _ ⟨g, ?_⟩; clear hK K g gg
  try simp only [Act.put, List.setIfInBounds_toArray, List.set_cons_zero, List.set_cons_succ]
  refine t_run (i := 3) rfl (by kernel_rfl) (by kernel_rfl) (by rfl) (fun K hK => ?_)
  go_simp; refine (FX.out _ bel).mono ?_; rintro e w3 ⟨CF, rfl, oS, g⟩; have hz2 : w0.heap.size ≤ w2.heap.size := hzz; have own := own_keep own g; have fw : FwSn w0.heap.size w3 L1 := fun y hy => ⟨(fw y hy).1.below g, (fw y hy).2⟩; have q5 := (g.block _ (lt_of_block q5)).trans q5; have oS := oS.base (base' := w0.heap.size) hz2; have bel := chain bel g; have hsF := oS.size; have hiF := infoS hsF; have hoF := oS.one; have hzF : cs.size = CF.size := (by rw [hsF]; exact HCS.out); refine hK _ _ ⟨g, ?_⟩; clear hK K g
  try simp only [Act.put, List.setIfInBounds_toArray, List.set_cons_zero, List.set_cons_succ]
  refine t_take (i := 4) (d := (some 0)) (v := ?_) rfl rfl (by kernel_rfl) (fun _ _ _ h => h) (by rfl) (fun w' hb' => ?_) ?_
  rotate_left
  · (try go_simp); (try with_reducible rfl)
  try simp only [Act.put, List.setIfInBounds_toArray, List.set_cons_zero, List.set_cons_succ]
  refine t_last (i := 5) rfl (by kernel_rfl) (by kernel_rfl) (by kernel_rfl) (by rfl) (fun K hK => ?_)
  refine wp_store_row 28 (.tmp 5) (.tmp 15) rfl _ CF rfl rfl _ cs q5 hiF hzF hoF ?_
  refine hK _ _ ?_
  obtain ⟨WS, hWS⟩ : ∃ W, W = w3.setRow w.heap.size CF := ⟨_, rfl⟩
  have q5 : WS.heap[w.heap.size]? = some (.cells CF 28 (0, 0)) := by rw [hWS]; exact setRow_heap _ _ _ CF _ _ q5
  have bel : Below w.heap.size w WS := by rw [hWS]; exact below_row bel (Nat.le_refl _) CF
  have mv : ∀ g, w0.heap.size ≤ g → g < w3.heap.size → WS.heap[g]? = w3.heap[g]? := fun g hg _ => by rw [hWS, setRow_other _ _ _ _ (by have := HW0S.out; omega)]
  have own := own_moved2 own mv
  have fw : FwSn w0.heap.size WS L1 := fun y hy => ⟨(fw y hy).1.moved mv, (fw y hy).2⟩
  have oS := oS.moved mv
  rw [← hWS]
  clear hWS mv hK K hzz hz2
  obtain ⟨a1, n1, c1, rfl⟩ := own_slice own
  obtain rfl := own_count own
  have RK := Lib.hid (own_rdk snC_len own)
  have RS := Lib.hid fw.rd
  have SZ := Lib.hid fw.sz
  have LN := Lib.hid fw.ln
  have XR := Lib.hid oS.rd
  have XZ := Lib.hid (fewT_sz s.lv)
  have XW := Lib.hid (fewT_wf HWX.out)
  have XL := Lib.hid (fewT_len s.lv)
  have hS := Below.refl WS.heap.size WS
  have BW := Lib.hid bel
  have hXA := mkSn_A (q := q) (s := fewS s) hsF oS.rd.one
  obtain ⟨x, hxm⟩ : ∃ x, x = mkSn q CF (fewS s) := ⟨_, rfl⟩
  have hxq : x.q = q := by rw [hxm]; rfl
  have hxs : x.s = fewS s := by rw [hxm]; rfl
  rw [← hxm] at hXA
  have HXA := Lib.hid hXA
  have KX := Lib.hid hxm
  have AW := Lib.hid (fun W (g : Below WS.heap.size WS W) => awake14_any W (HTAB.out.below (chain BW.out g)))
  have HXQ := Lib.hid hxq
  have HXS := Lib.hid hxs
  have hsF2 := Lib.hid hsF
  clear own fw oS bel hXA FW FX hxq hxs hxm hiS hzF
  obtain ⟨i0, hi0, hz0, hz1, hz2⟩ := snap_info
  have HBM := Lib.hid hbm7
  have HBs := Lib.hid hbs_one
  have HLIT := Lib.hid (World.ownsRow_lit (e := 77) (size := 36) WS #[] 0 (Nat.le_refl _) (by decide) rfl)
  go_wp2_with (first | (at_builtin; refine wpList_app_rdk snC_len (by decide) WS rfl (.tmp 16) (.tmp 17) 70 rfl WS.heap.size 77 i0 (.agg zSN) 544 Tryd.underlying70 hi0 hz0 hz1 hz2 rfl (.slice (some ⟨WS.heap.size, 0, none⟩) 0 0) [] rfl HLIT.out (.slice a1 L1.length c1) L1 rfl (RK.out.below ((Below.refl _ _).alloc (Nat.le_refl _) _) (Nat.le_refl _)) snC_one (by unfold maxLen; simp; omega) (by simp; omega) (Nat.le_refl _) ((Below.refl _ _).alloc (Nat.le_refl _) _) ?_; intro vq wq own2 hb2 hq2; clear hq2; rw [List.nil_append] at own2) | ((with_reducible refine wpList_buildp (o := ⟨some 19, _, _, _, _, _⟩) rfl 77 (.const (.int .i64 (-7))) rfl (.int .i64 (-7)) (.agg (snV xm7)) rfl (HBM.out _) ?_)) | ((with_reducible refine wpList_build1 (o := ⟨some 20, _, _, _, _, _⟩) rfl 70 (.tmp 19) rfl (snV xm7) rfl _ _ (HBs.out xm7 wq) ?_)) | (at_builtin; refine wpList_app1k snC_len (by decide) WS rfl (.tmp 18) (.tmp 20) 70 rfl WS.heap.size 77 i0 (.agg zSN) 544 Tryd.underlying70 hi0 hz0 hz1 hz2 rfl _ L1 rfl own2 77 xm7 (snC xm7) rfl rfl snC_one (by unfold maxLen; omega) (by omega) (Nat.le_refl _) hb2 ?_; intro v7 w7 own7 hb7 hq7; clear hq7))
  have q5 := (hb7.block _ (lt_of_block q5)).trans q5
  have hS := chain hS hb7
  obtain ⟨RM, hRM⟩ : ∃ R, R = L1 ++ [xm7] := ⟨_, rfl⟩
  rw [← hRM] at own7
  have hrl : RM.length = L1.length + 1 := by rw [hRM]; simp
  obtain ⟨g7, c7, hv7⟩ : ∃ g c, v7 = .slice (some ⟨g, 0, none⟩) RM.length c := by
    rcases own7.2 with ⟨_, h0⟩ | ⟨g, c, cur, h1, _⟩
    · omega
    · exact ⟨g, c, h1⟩
  subst hv7
  have hc7 : RM.length ≤ c7 := by
    rcases own7.2 with ⟨h1, _⟩ | ⟨g, c, cur, h1, _, _, h2, _⟩
    · cases h1
    · cases h1; exact h2
  have OWN7 := Lib.hid own7
  have h7 := Below.refl w7.heap.size w7
  have HB7 := Lib.hid hb7
  have SLC := Lib.hid (fun W => slice_to 70 77 i0 Tryd.underlying70 hi0 g7 RM.length c7 L1.length (by omega) (by omega) W)
  have RK7 := Lib.hid (show ∀ W, Below w7.heap.size w7 W → RdK 36 snC W (.slice (some ⟨g7, 0, none⟩) L1.length c7) L1 from fun W g => by
    have h9 := RdK.short snC_len (own_rdk snC_len (own_keep OWN7.out g)) L1.length (by omega)
    rw [hRM] at h9
    rwa [List.take_left] at h9)
  have CM7 := Lib.hid (show ∀ W, Below w7.heap.size w7 W → W.cell? ⟨g7, L1.length * 36, none⟩ = some (.int .i64 (-7)) from fun W g => by
    obtain ⟨b, o, he, _, hcell⟩ := RdK.cell snC_len (own_rdk snC_len (own_keep OWN7.out g)) L1.length (by omega)
    cases he
    have h0 := hcell 0 (by omega)
    rw [Nat.add_zero, Nat.zero_add] at h0
    rw [h0]
    have e : RM[L1.length]'(by omega) = xm7 := by subst hRM; simp
    rw [e]; rfl)
  have KP := Lib.hid (fun W (g : Below w7.heap.size w7 W) => (show Calls Tryd.prog 42 #[.slice (some ⟨g7, 0, none⟩) L1.length c7, .int .i64 q, .agg CF] W (KeepP W L1 x) by
    rw [KX.out]
    exact keep14_any _ L1 q CF (fewS s) W (HTAB.out.below (chain BW.out (chain HB7.out g))) (RK7.out _ g) (RS.out.below (chain HB7.out g) (Nat.le_refl _)) SZ.out LN.out (XR.out.below (chain HB7.out g) (Nat.le_refl _)) XZ.out XW.out XL.out))
  have RK14 := Lib.hid (fun W (g : Below WS.heap.size WS W) => (show Calls Tryd.prog 43 #[.slice a1 L1.length c1, .int .i64 q, .agg CF] W (KeepP W L1 x) by
    rw [KX.out]
    exact refKeep14_any _ L1 q CF (fewS s) W (HTAB.out.below (chain BW.out g)) (RK.out.below g (Nat.le_refl _)) (RS.out.below g (Nat.le_refl _)) SZ.out LN.out (XR.out.below g (Nat.le_refl _)) XZ.out XW.out XL.out (by omega)))
  have f7 : (L1.length : Int) < (RM.length : Int) := by omega
  obtain ⟨OUT, hOUT⟩ : ∃ o, o = keepL L1 x := ⟨_, rfl⟩
  have HOUT := Lib.hid hOUT
  have HO20 := Lib.hid (show OUT.length ≤ 100 by rw [hOUT]; unfold keepL; rw [List.length_append]; split <;> simp <;> omega)
  have HRL := Lib.hid hrl
  clear own7 hb7 hRM hOUT hrl HBM HBs HLIT
  by_cases hk0 : keepE L1 x = 0
  · have HK0 := Lib.hid hk0
    clear hk0
    go_wp2_with fail
    refine g_start (by kernel_rfl) ?_
    refine g_take (i := 0) (d := (some 23)) (v := ?_) rfl rfl (by kernel_rfl) (fun _ _ _ h => h) (by rfl) (fun w' hb' => ?_) ?_
    rotate_left
    · (try go_simp); (try with_reducible rfl)
    try simp only [Act.put, List.setIfInBounds_toArray, List.set_cons_zero, List.set_cons_succ]
    refine g_take (i := 1) (d := (some 24)) (v := ?_) rfl rfl (by kernel_rfl) (fun _ _ _ h => h) (by rfl) (fun w' hb' => ?_) ?_
    rotate_left
    · (try go_simp); (try with_reducible rfl)
    try simp only [Act.put, List.setIfInBounds_toArray, List.set_cons_zero, List.set_cons_succ]
    refine g_take (i := 2) (d := (some 25)) (v := ?_) rfl rfl (by kernel_rfl) (fun _ _ _ h => h) (by rfl) (fun w' hb' => ?_) ?_
    rotate_left
    · (try go_simp); (try with_reducible rfl)
    try simp only [Act.put, List.setIfInBounds_toArray, List.set_cons_zero, List.set_cons_succ]
    refine g_take (i := 3) (d := (some 26)) (v := ?_) rfl rfl (by kernel_rfl) (fun _ _ _ h => h) (by rfl) (fun w' hb' => ?_) ?_
    rotate_left
    · (refine slice_to_op (T := 70) (u := .slice (some ⟨g7, 0, none⟩) RM.length c7) (v := .int .i64 (L1.length : Int)) (r := .slice (some ⟨g7, 0, none⟩) L1.length c7) _ _ (.tmp 23) (.tmp 25) ?_ ?_ ?_ (SLC.out _) <;> rfl); (try go_simp); (try with_reducible rfl)
    try simp only [Act.put, List.setIfInBounds_toArray, List.set_cons_zero, List.set_cons_succ]
    refine g_take (i := 4) (d := (some 27)) (v := ?_) rfl rfl (by kernel_rfl) (fun _ _ _ h => h) (by rfl) (fun w' hb' => ?_) ?_
    rotate_left
    · (try go_simp); (try with_reducible rfl)
    try simp only [Act.put, List.setIfInBounds_toArray, List.set_cons_zero, List.set_cons_succ]
    refine g_take (i := 5) (d := (some 28)) (v := ?_) rfl rfl (by kernel_rfl) (fun _ _ _ h => h) (by rfl) (fun w' hb' => ?_) ?_
    rotate_left
    · (refine load_row_op _ _ (.tmp 5) ?_ ?_ ((hb'.block _ (lt_of_block q5)).trans q5) Tryd.underlying28 ?_ hiF <;> rfl); (try go_simp); (try with_reducible rfl)
    try simp only [Act.put, List.setIfInBounds_toArray, List.set_cons_zero, List.set_cons_succ]
    refine g_run (i := 6) rfl (by kernel_rfl) (by rfl) (fun K hK => ?_)
    go_simp; refine (KP.out _ (Below.drew h7)).mono ?_; rintro e w8 ⟨kk0, kk1, gg⟩; obtain ⟨v8, rfl, own8⟩ := kk0 HK0.out; rw [← HOUT.out] at own8; obtain ⟨a8, n8, c8, rfl⟩ := own_slice own8; obtain rfl := own_count own8; have own8 := Lib.hid own8; have h8 := Below.refl w8.heap.size w8; have q5 := (gg.block _ (lt_of_block q5)).trans q5; have hS := chain (Below.drew hS) gg; have h7 := chain (Below.drew h7) gg; refine hK _ _ ⟨gg, ?_⟩; clear hK K gg kk0 kk1
    try simp only [Act.put, List.setIfInBounds_toArray, List.set_cons_zero, List.set_cons_succ]
    refine g_take (i := 7) (d := (some 22)) (v := ?_) rfl rfl (by kernel_rfl) (fun _ _ _ h => h) (by rfl) (fun w' hb' => ?_) ?_
    rotate_left
    · (try go_simp); (try with_reducible rfl)
    try simp only [Act.put, List.setIfInBounds_toArray, List.set_cons_zero, List.set_cons_succ]
    refine g_take (i := 8) (d := (some 30)) (v := ?_) rfl rfl (by kernel_rfl) (fun _ _ _ h => h) (by rfl) (fun w' hb' => ?_) ?_
    rotate_left
    · (try go_simp); (try with_reducible rfl)
    try simp only [Act.put, List.setIfInBounds_toArray, List.set_cons_zero, List.set_cons_succ]
    refine g_take (i := 9) (d := (some 31)) (v := ?_) rfl rfl (by kernel_rfl) (fun _ _ _ h => h) (by rfl) (fun w' hb' => ?_) ?_
    rotate_left
    · (try go_simp); (try with_reducible rfl)
    try simp only [Act.put, List.setIfInBounds_toArray, List.set_cons_zero, List.set_cons_succ]
    refine g_take (i := 10) (d := (some 8)) (v := ?_) rfl rfl (by kernel_rfl) (fun _ _ _ h => h) (by rfl) (fun w' hb' => ?_) ?_
    rotate_left
    · (try go_simp); (try with_reducible rfl)
    try simp only [Act.put, List.setIfInBounds_toArray, List.set_cons_zero, List.set_cons_succ]
    refine g_take (i := 11) (d := (some 9)) (v := ?_) rfl rfl (by kernel_rfl) (fun _ _ _ h => h) (by rfl) (fun w' hb' => ?_) ?_
    rotate_left
    · (try go_simp); (try with_reducible rfl)
    try simp only [Act.put, List.setIfInBounds_toArray, List.set_cons_zero, List.set_cons_succ]
    refine g_done (by kernel_rfl) ?_
    go_wp2_with ((with_reducible refine wpList_load_row (o := ⟨some 35, _, _, _, _, _⟩) rfl 28 (.tmp 5) rfl _ rfl _ CF (0, 0) _ q5 Tryd.underlying28 rfl hiF ?_))
    refine (RK14.out _ hS).mono ?_
    rintro e w9 ⟨kk0, kk1, g⟩
    obtain ⟨v9, rfl, own9⟩ := kk0 HK0.out
    rw [← HOUT.out] at own9
    obtain ⟨a9, n9, c9, rfl⟩ := own_slice own9
    obtain rfl := own_count own9
    have hS := chain hS g
    have h7 := chain h7 g
    have h8 := chain h8 g
    clear g kk0 kk1
    have SM := Lib.hid (same14_yes _ _ OUT OUT w9 (own_rdk snC_len (own_keep own8.out h8)) (own_rdk snC_len own9) (by rw [HOUT.out]; exact RdSn.keep (RS.out.below hS (Nat.le_refl _)) (by rw [HXA.out, HXS.out]; exact XR.out.below hS (Nat.le_refl _))) (by rw [HOUT.out]; exact RdSn.keep (RS.out.below hS (Nat.le_refl _)) (by rw [HXA.out, HXS.out]; exact XR.out.below hS (Nat.le_refl _))) (by rw [HOUT.out]; exact keep_all LN.out (by rw [HXS.out]; exact XL.out)) (eqSn_refl _) HO20.out)
    go_wp2_with fail
    refine SM.out.mono ?_
    rintro e wA ⟨rfl, g⟩
    have hS := chain hS g
    have h7 := chain h7 g
    clear g SM
    have SM2 := Lib.hid (same14_yes (.slice (some ⟨g7, 0, none⟩) L1.length c7) (.slice a1 L1.length c1) L1 L1 wA (RK7.out _ h7) (RK.out.below hS (Nat.le_refl _)) (RS.out.below hS (Nat.le_refl _)) (RS.out.below hS (Nat.le_refl _)) LN.out (eqSn_refl _) (by omega))
    go_wp2_with ((refine wpList_slice_g (o := ⟨some 51, _, _, _, _, _⟩) ?_ 70 (.tmp 48) (.tmp 50) rfl (.slice (some ⟨g7, 0, none⟩) RM.length c7) (.int .i64 (L1.length : Int)) rfl rfl (SLC.out _) ?_); rfl)
    refine SM2.out.mono ?_
    rintro e wB ⟨rfl, g⟩
    have hS := chain hS g
    have h7 := chain h7 g
    have c9 := CM7.out _ h7
    clear g SM2
    go_wp2_with fail
    refine (AW.out _ hS).mono ?_
    rintro e wC ⟨rfl, g⟩
    have hS := chain hS g
    clear g
    go_wp2_with fail
    go_ret
    exact ⟨rfl, chain BW.out hS⟩
  · have HKN := Lib.hid hk0
    obtain ⟨N, hN⟩ : ∃ n, n = keepE L1 x := ⟨_, rfl⟩
    have HNE := Lib.hid hN
    clear hk0 hN
    go_wp2_with fail
    refine g_start (by kernel_rfl) ?_
    refine g_take (i := 0) (d := (some 23)) (v := ?_) rfl rfl (by kernel_rfl) (fun _ _ _ h => h) (by rfl) (fun w' hb' => ?_) ?_
    rotate_left
    · (try go_simp); (try with_reducible rfl)
    try simp only [Act.put, List.setIfInBounds_toArray, List.set_cons_zero, List.set_cons_succ]
    refine g_take (i := 1) (d := (some 24)) (v := ?_) rfl rfl (by kernel_rfl) (fun _ _ _ h => h) (by rfl) (fun w' hb' => ?_) ?_
    rotate_left
    · (try go_simp); (try with_reducible rfl)
    try simp only [Act.put, List.setIfInBounds_toArray, List.set_cons_zero, List.set_cons_succ]
    refine g_take (i := 2) (d := (some 25)) (v := ?_) rfl rfl (by kernel_rfl) (fun _ _ _ h => h) (by rfl) (fun w' hb' => ?_) ?_
    rotate_left
    · (try go_simp); (try with_reducible rfl)
    try simp only [Act.put, List.setIfInBounds_toArray, List.set_cons_zero, List.set_cons_succ]
    refine g_take (i := 3) (d := (some 26)) (v := ?_) rfl rfl (by kernel_rfl) (fun _ _ _ h => h) (by rfl) (fun w' hb' => ?_) ?_
    rotate_left
    · (refine slice_to_op (T := 70) (u := .slice (some ⟨g7, 0, none⟩) RM.length c7) (v := .int .i64 (L1.length : Int)) (r := .slice (some ⟨g7, 0, none⟩) L1.length c7) _ _ (.tmp 23) (.tmp 25) ?_ ?_ ?_ (SLC.out _) <;> rfl); (try go_simp); (try with_reducible rfl)
    try simp only [Act.put, List.setIfInBounds_toArray, List.set_cons_zero, List.set_cons_succ]
    refine g_take (i := 4) (d := (some 27)) (v := ?_) rfl rfl (by kernel_rfl) (fun _ _ _ h => h) (by rfl) (fun w' hb' => ?_) ?_
    rotate_left
    · (try go_simp); (try with_reducible rfl)
    try simp only [Act.put, List.setIfInBounds_toArray, List.set_cons_zero, List.set_cons_succ]
    refine g_take (i := 5) (d := (some 28)) (v := ?_) rfl rfl (by kernel_rfl) (fun _ _ _ h => h) (by rfl) (fun w' hb' => ?_) ?_
    rotate_left
    · (refine load_row_op _ _ (.tmp 5) ?_ ?_ ((hb'.block _ (lt_of_block q5)).trans q5) Tryd.underlying28 ?_ hiF <;> rfl); (try go_simp); (try with_reducible rfl)
    try simp only [Act.put, List.setIfInBounds_toArray, List.set_cons_zero, List.set_cons_succ]
    refine g_run (i := 6) rfl (by kernel_rfl) (by rfl) (fun K hK => ?_)
    go_simp; refine (KP.out _ (Below.drew h7)).mono ?_; rintro e w8 ⟨kk0, kk1, gg⟩; obtain rfl := kk1 HKN.out; rw [← HNE.out]; have q5 := (gg.block _ (lt_of_block q5)).trans q5; have hS := chain (Below.drew hS) gg; have h7 := chain (Below.drew h7) gg; refine hK _ _ ⟨gg, ?_⟩; clear hK K gg kk0 kk1
    try simp only [Act.put, List.setIfInBounds_toArray, List.set_cons_zero, List.set_cons_succ]
    refine g_take (i := 7) (d := (some 22)) (v := ?_) rfl rfl (by kernel_rfl) (fun _ _ _ h => h) (by rfl) (fun w' hb' => ?_) ?_
    rotate_left
    · (try go_simp); (try with_reducible rfl)
    try simp only [Act.put, List.setIfInBounds_toArray, List.set_cons_zero, List.set_cons_succ]
    refine g_take (i := 8) (d := (some 30)) (v := ?_) rfl rfl (by kernel_rfl) (fun _ _ _ h => h) (by rfl) (fun w' hb' => ?_) ?_
    rotate_left
    · (try go_simp); (try with_reducible rfl)
    try simp only [Act.put, List.setIfInBounds_toArray, List.set_cons_zero, List.set_cons_succ]
    refine g_take (i := 9) (d := (some 31)) (v := ?_) rfl rfl (by kernel_rfl) (fun _ _ _ h => h) (by rfl) (fun w' hb' => ?_) ?_
    rotate_left
    · (try go_simp); (try with_reducible rfl)
    try simp only [Act.put, List.setIfInBounds_toArray, List.set_cons_zero, List.set_cons_succ]
    refine g_take (i := 10) (d := (some 8)) (v := ?_) rfl rfl (by kernel_rfl) (fun _ _ _ h => h) (by rfl) (fun w' hb' => ?_) ?_
    rotate_left
    · (try go_simp); (try with_reducible rfl)
    try simp only [Act.put, List.setIfInBounds_toArray, List.set_cons_zero, List.set_cons_succ]
    refine g_take (i := 11) (d := (some 9)) (v := ?_) rfl rfl (by kernel_rfl) (fun _ _ _ h => h) (by rfl) (fun w' hb' => ?_) ?_
    rotate_left
    · (try go_simp); (try with_reducible rfl)
    try simp only [Act.put, List.setIfInBounds_toArray, List.set_cons_zero, List.set_cons_succ]
    refine g_done (by kernel_rfl) ?_
    go_wp2_with ((with_reducible refine wpList_load_row (o := ⟨some 35, _, _, _, _, _⟩) rfl 28 (.tmp 5) rfl _ rfl _ CF (0, 0) _ q5 Tryd.underlying28 rfl hiF ?_))
    refine (RK14.out _ hS).mono ?_
    rintro e w9 ⟨kk0, kk1, g⟩
    obtain rfl := kk1 HKN.out
    rw [← HNE.out]
    have hS := chain hS g
    have h7 := chain h7 g
    clear g kk0 kk1
    have SM := Lib.hid (same14_yes (.slice none 0 0) (.slice none 0 0) [] [] w9 (rdk_nil _) (rdk_nil _) (fun x hx => (by cases hx)) (fun x hx => (by cases hx)) (fun x hx => (by cases hx)) (eqSn_refl _) (by simp))
    go_wp2_with fail
    refine SM.out.mono ?_
    rintro e wA ⟨rfl, g⟩
    have hS := chain hS g
    have h7 := chain h7 g
    clear g SM
    have SM2 := Lib.hid (same14_yes (.slice (some ⟨g7, 0, none⟩) L1.length c7) (.slice a1 L1.length c1) L1 L1 wA (RK7.out _ h7) (RK.out.below hS (Nat.le_refl _)) (RS.out.below hS (Nat.le_refl _)) (RS.out.below hS (Nat.le_refl _)) LN.out (eqSn_refl _) (by omega))
    go_wp2_with ((refine wpList_slice_g (o := ⟨some 51, _, _, _, _, _⟩) ?_ 70 (.tmp 48) (.tmp 50) rfl (.slice (some ⟨g7, 0, none⟩) RM.length c7) (.int .i64 (L1.length : Int)) rfl rfl (SLC.out _) ?_); rfl)
    refine SM2.out.mono ?_
    rintro e wB ⟨rfl, g⟩
    have hS := chain hS g
    have h7 := chain h7 g
    have c9 := CM7.out _ h7
    clear g SM2
    go_wp2_with fail
    refine (AW.out _ hS).mono ?_
    rintro e wC ⟨rfl, g⟩
    have hS := chain hS g
    clear g
    go_wp2_with fail
    go_ret
    exact ⟨rfl, chain BW.out hS⟩
theorem snapkeeps_row (v : Value) (L : List Sn) (q : Int) (cs : Array Value) (s : St) (w : World) (h : RdK 36 snC w v L) (hrs : RdSn w L) (hsz : SzSn L) (hq : (Lit.int .i64 q).wf = true) (hx : RdS w cs s) (hxz : SzT s.lv) (hxw : WfT s.lv) (tab : TabAt w) :
    Calls Tryd.prog 9 #[v, .int .i64 q, .agg cs] w fun e w' => e = .returned (.bool true) ∧ Below w.heap.size w w' := snapkeeps_any v L q cs s w tab h hrs hsz hx hxz hxw
end Go.Proofs.YtbdfcgffkonbiaaDoor
