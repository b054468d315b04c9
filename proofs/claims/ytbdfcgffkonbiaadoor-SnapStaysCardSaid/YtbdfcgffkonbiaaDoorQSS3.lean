/- Snaps: the law SnapStays. Written by wip/tools/gen14u.py. -/
import Derived.Test.YtbdfcgffkonbiaaDoorQSS2
namespace Go.Proofs.YtbdfcgffkonbiaaDoor
open Go Go.RowKit
set_option linter.unusedVariables false
set_option linter.unusedSimpArgs false
set_option maxRecDepth 100000 in
set_option maxHeartbeats 1000000 in
theorem snapstays_any (v : Value) (L : List Sn) (q : Int) (cs : Array Value) (s : St) (w : World) (tab : TabAt w) (h : RdK 36 snC w v L) (hrs : RdSn w L) (hsz : SzSn L) (hx : RdS w cs s) (hxz : SzT s.lv) (hxw : WfT s.lv) :
    Calls Tryd.prog 12 #[v, .int .i64 q, .agg cs] w fun e w' => e = .returned (.bool true) ∧ Below w.heap.size w w' := by
  have HTAB := Lib.hid tab
  have q5 := heap_alloc_new w (.cells cs 28)
  have bel := (Below.refl w.heap.size w).alloc (Nat.le_refl _) (.cells cs 28)
  obtain ⟨w0, hw0⟩ : ∃ W, W = w.alloc (.cells cs 28) := ⟨_, rfl⟩
  have hs0 : w0.heap.size = w.heap.size + 1 := by rw [hw0]; exact World.size_alloc _ _
  have HW0S := Lib.hid hs0
  rw [← hw0] at q5 bel
  have HCS := Lib.hid hx.size
  have hiS := infoS hx.size
  have FW := Lib.hid (fun W (g : Below w.heap.size w W) => few14_any v L W (h.below g (Nat.le_refl _)) (hrs.below g (Nat.le_refl _)) hsz)
  have FX := Lib.hid (fun W (g : Below w.heap.size w W) => few13_any cs s W (hx.below g (Nat.le_refl _)) hxz)
  obtain ⟨ao, nn, cap, rfl⟩ : ∃ a n c, v = .slice a n c := by obtain ⟨a, c, e, _⟩ := h; exact ⟨_, _, _, e⟩
  have z0 := zeroS_run
  have z1 := zS_ne
  have hizS := infoS zS_size
  have hozS := zS_one
  have HWX := Lib.hid hxw
  clear h hrs hsz tab hx hxz hxw hs0
  go_enter Tryd.func12, Tryd.ntmps12
  go_wp2_with fail
  rw [← hw0]
  clear hw0
  refine t_start 5 (by kernel_rfl) ?_
  refine t_take (i := 0) (d := (some 15)) (v := ?_) rfl rfl (by kernel_rfl) (fun _ _ _ h => h) (by rfl) (fun w' hb' => ?_) ?_
  rotate_left
  · (try go_simp); (try with_reducible rfl)
  try simp only [Act.put, List.setIfInBounds_toArray, List.set_cons_zero, List.set_cons_succ]
  refine t_take (i := 2) (d := (some 17)) (v := ?_) rfl rfl (by kernel_rfl) (fun _ _ _ h => h) (by rfl) (fun w' hb' => ?_) ?_
  rotate_left
  · (refine load_row_op _ _ (.tmp 5) ?_ ?_ ((hb'.block _ (lt_of_block q5)).trans q5) Tryd.underlying28 ?_ hiS <;> rfl); (try go_simp); (try with_reducible rfl)
  try simp only [Act.put, List.setIfInBounds_toArray, List.set_cons_zero, List.set_cons_succ]
  refine t_run (i := 1) rfl (by kernel_rfl) (by kernel_rfl) (by rfl) (fun K hK => ?_)
  go_simp; refine (FW.out _ (Below.drew bel)).mono ?_; rintro e w2 ⟨v1, L1, rfl, own, fw, h10, g⟩; have gg := Below.trans (Below.drew (Below.refl w0.heap.size w0)) (g.mono (Nat.le_refl _)); have q5 := (gg.block _ (lt_of_block q5)).trans q5; have own : w2.ownsRow w0.heap.size 77 36 v1 L1.length (L1.flatMap snC) := own; have fw : FwSn w0.heap.size w2 L1 := fw; have bel := chain bel gg; have hzz : w0.heap.size ≤ w2.heap.size := gg.size; refine hK _ _ ⟨g, ?_⟩; clear hK K g gg
  try simp only [Act.put, List.setIfInBounds_toArray, List.set_cons_zero, List.set_cons_succ]
  refine t_run (i := 3) rfl (by kernel_rfl) (by kernel_rfl) (by rfl) (fun K hK => ?_)
  go_simp; refine (FX.out _ bel).mono ?_; rintro e w3 ⟨CF, rfl, oS, g⟩; have hz2 : w0.heap.size ≤ w2.heap.size := hzz; have own := own_keep own g; have fw : FwSn w0.heap.size w3 L1 := fun y hy => ⟨(fw y hy).1.below g, (fw y hy).2⟩; have q5 := (g.block _ (lt_of_block q5)).trans q5; have oS := oS.base (base' := w0.heap.size) hz2; have bel := chain bel g; have hsF := oS.size; have hiF := infoS hsF; have hoF := oS.one; have hzF : cs.size = CF.size := (by rw [hsF]; exact HCS.out); refine hK _ _ ⟨g, ?_⟩; clear hK K g
  try simp only [Act.put, List.setIfInBounds_toArray, List.set_cons_zero, List.set_cons_succ]
  refine t_take (i := 4) (d := (some 0)) (v := ?_) rfl rfl (by kernel_rfl) (fun _ _ _ h => h) (by rfl) (fun w' hb' => ?_) ?_
  rotate_left
  · (try go_simp); (try with_reducible rfl)
  try simp only [Act.put, List.setIfInBounds_toArray, List.set_cons_zero, List.set_cons_succ]
  refine t_last (i := 5) rfl (by kernel_rfl) (by kernel_rfl) (by kernel_rfl) (by rfl) (fun K hK => ?_)
  refine wp_store_row 28 (.tmp 5) (.tmp 18) rfl _ CF rfl rfl _ cs q5 hiF hzF hoF ?_
  refine hK _ _ ?_
  obtain ⟨WS, hWS⟩ : ∃ W, W = w3.setRow w.heap.size CF := ⟨_, rfl⟩
  have q5 : WS.heap[w.heap.size]? = some (.cells CF 28 (0, 0)) := by rw [hWS]; exact setRow_heap _ _ _ CF _ _ q5
  have bel : Below w.heap.size w WS := by rw [hWS]; exact below_row bel (Nat.le_refl _) CF
  have mv : ∀ g, w0.heap.size ≤ g → g < w3.heap.size → WS.heap[g]? = w3.heap[g]? := fun g hg _ => by rw [hWS, setRow_other _ _ _ _ (by have := HW0S.out; omega)]
  have own := own_moved2 own mv
  have fw : FwSn w0.heap.size WS L1 := fun y hy => ⟨(fw y hy).1.moved mv, (fw y hy).2⟩
  have oS := oS.moved mv
  rw [← hWS]
  clear hWS mv hK K hzz hz2
  obtain ⟨a1, n1, c1, rfl⟩ := own_slice own
  obtain rfl := own_count own
  have RK := Lib.hid (own_rdk snC_len own)
  have RS := Lib.hid fw.rd
  have SZ := Lib.hid fw.sz
  have LN := Lib.hid fw.ln
  have XR := Lib.hid oS.rd
  have XZ := Lib.hid (fewT_sz s.lv)
  have XW := Lib.hid (fewT_wf HWX.out)
  have XL := Lib.hid (fewT_len s.lv)
  have hS := Below.refl WS.heap.size WS
  have BW := Lib.hid bel
  have hXA := mkSn_A (q := q) (s := fewS s) hsF oS.rd.one
  obtain ⟨x, hxm⟩ : ∃ x, x = mkSn q CF (fewS s) := ⟨_, rfl⟩
  have hxq : x.q = q := by rw [hxm]; rfl
  have hxs : x.s = fewS s := by rw [hxm]; rfl
  rw [← hxm] at hXA
  have HXA := Lib.hid hXA
  have KP0 := keep14_any _ L1 q CF (fewS s) WS (HTAB.out.below bel) RK.out RS.out SZ.out LN.out XR.out XZ.out XW.out XL.out
  rw [← hxm] at KP0
  have KP := Lib.hid KP0
  have AW := Lib.hid (fun W (g : Below WS.heap.size WS W) => awake14_any W (HTAB.out.below (chain BW.out g)))
  have HXQ := Lib.hid hxq
  have HXS := Lib.hid hxs
  have hsF2 := Lib.hid hsF
  clear own fw oS bel hXA KP0 FW FX hxq hxs hxm hiS hzF
  by_cases hk0 : keepE L1 x = 0
  · obtain ⟨hi1, hi2, hlt⟩ := keep_ok hk0
    have HI1 := Lib.hid hi1
    have HI2 := Lib.hid hi2
    have HLT := Lib.hid hlt
    have HK0 := Lib.hid hk0
    obtain ⟨OUT, hOUT⟩ : ∃ o, o = keepL L1 x := ⟨_, rfl⟩
    have HOUT := Lib.hid hOUT
    clear hk0 hi1 hi2 hlt hOUT
    go_wp2_with (with_reducible refine wpList_load_row (o := ⟨some 22, _, _, _, _, _⟩) rfl 28 (.tmp 5) rfl _ rfl _ CF (0, 0) _ q5 Tryd.underlying28 rfl hiF ?_)
    refine KP.out.mono ?_
    rintro e w4 ⟨hk, -, g⟩
    obtain ⟨v7, rfl, own7⟩ := hk HK0.out
    rw [← HOUT.out] at own7
    obtain ⟨a7, n7, c7, rfl⟩ := own_slice own7
    obtain rfl := own_count own7
    have q5 := (g.block _ (lt_of_block q5)).trans q5
    have hS := chain hS g
    have RK7 := Lib.hid (own_rdk snC_len own7)
    have B4 := Lib.hid (chain BW.out hS)
    have RS7 := Lib.hid (show RdSn w4 OUT by rw [HOUT.out]; exact RdSn.keep (RS.out.below hS (Nat.le_refl _)) (by rw [HXA.out, HXS.out]; exact XR.out.below hS (Nat.le_refl _)))
    have SZ7 := Lib.hid (show SzSn OUT by rw [HOUT.out]; exact keep_all SZ.out (by rw [HXS.out]; exact ⟨XZ.out, XW.out⟩))
    have LN7 := Lib.hid (show LenSn OUT by rw [HOUT.out]; exact keep_all LN.out (by rw [HXS.out]; exact XL.out))
    have hIO := Lib.hid (show isSn OUT = true by rw [HOUT.out]; exact HI2.out)
    clear hk g own7 KP
    have HS4 := Lib.hid hS
    have h7 := Below.refl w4.heap.size w4
    have AX0 := fun W (g : Below w4.heap.size w4 W) => at14_any _ OUT q W (HTAB.out.below (chain B4.out g)) (RK7.out.below g (Nat.le_refl _)) (RS7.out.below g (Nat.le_refl _)) SZ7.out LN7.out
    unfold AtP at AX0
    obtain ⟨y1, y2⟩ := at14_mem hIO.out (y := x) (by rw [HOUT.out]; exact keep_new _ _)
    rw [HXQ.out] at y1 y2
    rw [y1, y2, HXA.out] at AX0
    have AX := Lib.hid AX0
    have SMX := Lib.hid (fun W (g : Below WS.heap.size WS W) => same13_yes CF CF (fewS s) W (XR.out.below g (Nat.le_refl _)) (XR.out.below g (Nat.le_refl _)) XL.out)
    clear AX0 y1 y2
    go_wp2_with fail
    refine (AX.out _ h7).mono ?_
    rintro e w5 ⟨rfl, g⟩
    have q5 := (g.block _ (lt_of_block q5)).trans q5
    have h7 := chain h7 g
    have hS := chain hS g
    clear g
    have qd9 := heap_alloc_new w5 (.cells zS 28)
    go_wp2_with (first | ((with_reducible refine wpList_load_row_g (o := ⟨some 43, _, _, _, _, _⟩) ?_ 28 (.tmp 9) rfl _ rfl _ CF (0, 0) _ q9 Tryd.underlying28 rfl hiF ?_); rfl) | ((with_reducible refine wpList_load_row_g (o := ⟨some 44, _, _, _, _, _⟩) ?_ 28 (.tmp 5) rfl _ rfl _ CF (0, 0) _ q5 Tryd.underlying28 rfl hiF ?_); rfl) | ((with_reducible refine wpList_store_row (o := ⟨none, _, _, _, _, _⟩) rfl 28 (.tmp 9) (.tmp 38) rfl _ CF rfl rfl _ zS qd9 hiF (zS_size.trans hsF2.out.symm) hoF ?_); (obtain ⟨w5b, hWn⟩ : ∃ W, W = (World.alloc w5 (.cells zS 28)).setRow w5.heap.size CF := ⟨_, rfl⟩); rw [← hWn]; (have q9 : w5b.heap[w5.heap.size]? = some (.cells CF 28 (0, 0)) := by rw [hWn]; exact setRow_heap _ _ _ CF _ _ qd9); (have gn : Below w5.heap.size w5 w5b := by rw [hWn]; exact below_row ((Below.refl _ _).alloc (Nat.le_refl _) _) (Nat.le_refl _) CF); clear hWn; (have hS := chain hS gn); (have q5 := (gn.block _ (lt_of_block q5)).trans q5); (have h7 := chain h7 gn); clear gn))
    refine (SMX.out _ hS).mono ?_
    rintro e w5c ⟨rfl, g⟩
    have h7 := chain h7 g
    have hS := chain hS g
    clear g
    go_wp2_with fail
    go_loopw [11] (fun i wr => ∃ k : Nat, k ≤ L1.length ∧ i = .int .i64 (k : Int) ∧ Below w4.heap.size w4 wr) (fun i _ => 200 - (intOf i).toNat)
    case atStart => exact ⟨0, Nat.zero_le _, rfl, h7⟩
    case round =>
      clear h7 hS
      obtain ⟨k, hk, rfl, h7⟩ := hrel
      have hS := HS4.out.trans (h7.mono HS4.out.size)
      by_cases hlt : k < L1.length
      · obtain ⟨b, off, rfl, hb, hcy0⟩ := RdK.cell snC_len (RK.out.below hS (Nat.le_refl _)) k hlt
        obtain ⟨y, hy⟩ : ∃ y, y = L1[k]'hlt := ⟨_, rfl⟩
        rw [← hy] at hcy0
        have hcy : ∀ i, i < 36 → wr.cell? ⟨b, off + k * 36 + i, none⟩ = (snC y)[i]? := fun i hi => by rw [Nat.add_assoc]; exact hcy0 i hi
        have qy := sn_q hcy
        have hym : y ∈ L1 := by rw [hy]; exact List.getElem_mem _
        have SMY := Lib.hid (fun W (g : Below WS.heap.size WS W) => same13_yes (snA y) (snA y) y.s W ((RS.out y hym).below g (Nat.le_refl _)) ((RS.out y hym).below g (Nat.le_refl _)) (LN.out y hym))
        have HY := Lib.hid hy
        clear hcy0 hy
        by_cases hk0 : k = 0
        · have e0 : ((k : Int) == 0) = true := by simp [hk0]
          have d0 : decide ((k : Int) = 0) = true := by simp [hk0]
          by_cases h8 : L1.length = 8
          · have e8 : ((L1.length : Int) == 8) = true := by simp [h8]
            have d8 : decide ((L1.length : Int) = 8) = true := by simp [h8]
            have XX := Lib.hid (show atE OUT y.q = 6 ∧ atC OUT y.q = zS from at14_nomem hIO.out (by
              have h9 := keep_gone HI1.out h8 HLT.out (by omega)
              rw [HOUT.out]
              have : y.q = (L1[0]'(by omega)).q := by rw [HY.out]; subst hk0; rfl
              rw [this]; exact h9))
            clear hk0 h8
            obtain ⟨x1, x2⟩ := XX.out
            have AT0 := fun W (g : Below w4.heap.size w4 W) => at14_any _ OUT y.q W (HTAB.out.below (chain B4.out g)) (RK7.out.below g (Nat.le_refl _)) (RS7.out.below g (Nat.le_refl _)) SZ7.out LN7.out
            unfold AtP at AT0
            rw [x1, x2] at AT0
            have AT := Lib.hid AT0
            clear AT0 x1 x2
            go_wp2_with fail
            refine (AT.out _ h7).mono ?_
            rintro e w6 ⟨rfl, g⟩
            have h7 := chain h7 g
            have hS := chain hS g
            have hcy : ∀ i, i < 36 → w6.cell? ⟨b, off + k * 36 + i, none⟩ = (snC y)[i]? := fun i hi => (g.cell (p := ⟨b, off + k * 36 + i, none⟩) hb).trans (hcy i hi)
            have hb := Nat.lt_of_lt_of_le hb g.size
            clear g
            have qd12 := heap_alloc_new w6 (.cells zS 28)
            go_wp2_with ((with_reducible refine wpList_store_row (o := ⟨none, _, _, _, _, _⟩) rfl 28 (.tmp 12) (.tmp 62) rfl _ zS rfl rfl _ zS qd12 hizS rfl hozS ?_); (obtain ⟨w7, hWn⟩ : ∃ W, W = (World.alloc w6 (.cells zS 28)).setRow w6.heap.size zS := ⟨_, rfl⟩); rw [← hWn]; (have q12 : w7.heap[w6.heap.size]? = some (.cells zS 28 (0, 0)) := by rw [hWn]; exact setRow_heap _ _ _ zS _ _ qd12); (have gn : Below w6.heap.size w6 w7 := by rw [hWn]; exact below_row ((Below.refl _ _).alloc (Nat.le_refl _) _) (Nat.le_refl _) zS); clear hWn; (have hS := chain hS gn); (have h7 := chain h7 gn); (have hcy : ∀ i, i < 36 → w7.cell? ⟨b, off + k * 36 + i, none⟩ = (snC y)[i]? := fun i hi => (gn.cell (p := ⟨b, off + k * 36 + i, none⟩) hb).trans (hcy i hi)); (have hb := Nat.lt_of_lt_of_le hb gn.size); clear gn)
            refine g_start (by kernel_rfl) ?_
            refine g_take (i := 0) (d := (some 71)) (v := ?_) rfl rfl (by kernel_rfl) (fun _ _ _ h => h) (by rfl) (fun w' hb' => ?_) ?_
            rotate_left
            · (try go_simp); (try with_reducible rfl)
            try simp only [Act.put, List.setIfInBounds_toArray, List.set_cons_zero, List.set_cons_succ]
            refine g_take (i := 1) (d := (some 72)) (v := ?_) rfl rfl (by kernel_rfl) (fun _ _ _ h => h) (by rfl) (fun w' hb' => ?_) ?_
            rotate_left
            · (try go_simp); (try with_reducible rfl)
            try simp only [Act.put, List.setIfInBounds_toArray, List.set_cons_zero, List.set_cons_succ]
            refine g_take (i := 2) (d := (some 73)) (v := ?_) rfl rfl (by kernel_rfl) (fun _ _ _ h => h) (by rfl) (fun w' hb' => ?_) ?_
            rotate_left
            · (try go_simp); (try with_reducible rfl)
            try simp only [Act.put, List.setIfInBounds_toArray, List.set_cons_zero, List.set_cons_succ]
            refine g_take (i := 3) (d := (some 74)) (v := ?_) rfl rfl (by kernel_rfl) (fun _ _ _ h => h) (by rfl) (fun w' hb' => ?_) ?_
            rotate_left
            · (try go_simp); (try with_reducible rfl)
            try simp only [Act.put, List.setIfInBounds_toArray, List.set_cons_zero, List.set_cons_succ]
            refine g_take (i := 4) (d := (some 75)) (v := ?_) rfl rfl (by kernel_rfl) (fun _ _ _ h => h) (by rfl) (fun w' hb' => ?_) ?_
            rotate_left
            · (try go_simp); (try with_reducible rfl)
            try simp only [Act.put, List.setIfInBounds_toArray, List.set_cons_zero, List.set_cons_succ]
            refine g_take (i := 5) (d := (some 76)) (v := ?_) rfl rfl (by kernel_rfl) (fun _ _ _ h => h) (by rfl) (fun w' hb' => ?_) ?_
            rotate_left
            · (try go_simp); (try with_reducible rfl)
            try simp only [Act.put, List.setIfInBounds_toArray, List.set_cons_zero, List.set_cons_succ]
            refine g_take (i := 6) (d := (some 77)) (v := ?_) rfl rfl (by kernel_rfl) (fun _ _ _ h => h) (by rfl) (fun w' hb' => ?_) ?_
            rotate_left
            · (try go_simp); (try with_reducible rfl)
            try simp only [Act.put, List.setIfInBounds_toArray, List.set_cons_zero, List.set_cons_succ]
            refine g_take (i := 7) (d := (some 78)) (v := ?_) rfl rfl (by kernel_rfl) (fun _ _ _ h => h) (by rfl) (fun w' hb' => ?_) ?_
            rotate_left
            · (try go_simp); (try with_reducible rfl)
            try simp only [Act.put, List.setIfInBounds_toArray, List.set_cons_zero, List.set_cons_succ]
            refine g_skip (i := 8) (d := (some 79)) rfl rfl (by kernel_rfl) (fun _ _ _ h => h) (by rfl) ?_
            try simp only [Act.put, List.setIfInBounds_toArray, List.set_cons_zero, List.set_cons_succ]
            refine g_skip (i := 9) (d := (some 80)) rfl rfl (by kernel_rfl) (fun _ _ _ h => h) (by rfl) ?_
            try simp only [Act.put, List.setIfInBounds_toArray, List.set_cons_zero, List.set_cons_succ]
            refine g_skip (i := 10) (d := (some 81)) rfl rfl (by kernel_rfl) (fun _ _ _ h => h) (by rfl) ?_
            try simp only [Act.put, List.setIfInBounds_toArray, List.set_cons_zero, List.set_cons_succ]
            refine g_skip (i := 11) (d := (some 82)) rfl rfl (by kernel_rfl) (fun _ _ _ h => h) (by rfl) ?_
            try simp only [Act.put, List.setIfInBounds_toArray, List.set_cons_zero, List.set_cons_succ]
            refine g_skip (i := 12) (d := (some 83)) rfl rfl (by kernel_rfl) (fun _ _ _ h => h) (by rfl) ?_
            try simp only [Act.put, List.setIfInBounds_toArray, List.set_cons_zero, List.set_cons_succ]
            refine g_skip (i := 13) (d := (some 84)) rfl rfl (by kernel_rfl) (fun _ _ _ h => h) (by rfl) ?_
            try simp only [Act.put, List.setIfInBounds_toArray, List.set_cons_zero, List.set_cons_succ]
            refine g_skip (i := 14) (d := (some 85)) rfl rfl (by kernel_rfl) (fun _ _ _ h => h) (by rfl) ?_
            try simp only [Act.put, List.setIfInBounds_toArray, List.set_cons_zero, List.set_cons_succ]
            refine g_skip (i := 15) (d := (some 86)) rfl rfl (by kernel_rfl) (fun _ _ _ h => h) (by rfl) ?_
            try simp only [Act.put, List.setIfInBounds_toArray, List.set_cons_zero, List.set_cons_succ]
            refine g_skip (i := 16) (d := (some 87)) rfl rfl (by kernel_rfl) (fun _ _ _ h => h) (by rfl) ?_
            try simp only [Act.put, List.setIfInBounds_toArray, List.set_cons_zero, List.set_cons_succ]
            refine g_skip (i := 17) (d := (some 88)) rfl rfl (by kernel_rfl) (fun _ _ _ h => h) (by rfl) ?_
            try simp only [Act.put, List.setIfInBounds_toArray, List.set_cons_zero, List.set_cons_succ]
            refine g_skip (i := 18) (d := (some 89)) rfl rfl (by kernel_rfl) (fun _ _ _ h => h) (by rfl) ?_
            try simp only [Act.put, List.setIfInBounds_toArray, List.set_cons_zero, List.set_cons_succ]
            refine g_skip (i := 19) (d := (some 90)) rfl rfl (by kernel_rfl) (fun _ _ _ h => h) (by rfl) ?_
            try simp only [Act.put, List.setIfInBounds_toArray, List.set_cons_zero, List.set_cons_succ]
            refine g_take (i := 20) (d := (some 91)) (v := ?_) rfl rfl (by kernel_rfl) (fun _ _ _ h => h) (by rfl) (fun w' hb' => ?_) ?_
            rotate_left
            · (try go_simp); (try with_reducible rfl)
            try simp only [Act.put, List.setIfInBounds_toArray, List.set_cons_zero, List.set_cons_succ]
            refine g_take (i := 21) (d := (some 92)) (v := ?_) rfl rfl (by kernel_rfl) (fun _ _ _ h => h) (by rfl) (fun w' hb' => ?_) ?_
            rotate_left
            · (try go_simp); (try with_reducible rfl)
            try simp only [Act.put, List.setIfInBounds_toArray, List.set_cons_zero, List.set_cons_succ]
            refine g_done (by kernel_rfl) ?_
            go_wp2_with fail
            exact ⟨⟨k + 1, by omega, by push_cast; rfl, h7.drew⟩, by simp [intOf]; omega⟩
          · have e8 : ((L1.length : Int) == 8) = false := by simp; omega
            have d8 : decide ((L1.length : Int) = 8) = false := by simp; omega
            have XX := Lib.hid (at14_mem hIO.out (y := y) (by rw [HOUT.out, HY.out]; exact keep_stay hlt (.inr h8)))
            clear hk0 h8
            obtain ⟨x1, x2⟩ := XX.out
            have AT0 := fun W (g : Below w4.heap.size w4 W) => at14_any _ OUT y.q W (HTAB.out.below (chain B4.out g)) (RK7.out.below g (Nat.le_refl _)) (RS7.out.below g (Nat.le_refl _)) SZ7.out LN7.out
            unfold AtP at AT0
            rw [x1, x2] at AT0
            have AT := Lib.hid AT0
            clear AT0 x1 x2
            go_wp2_with fail
            refine (AT.out _ h7).mono ?_
            rintro e w6 ⟨rfl, g⟩
            have h7 := chain h7 g
            have hS := chain hS g
            have hcy : ∀ i, i < 36 → w6.cell? ⟨b, off + k * 36 + i, none⟩ = (snC y)[i]? := fun i hi => (g.cell (p := ⟨b, off + k * 36 + i, none⟩) hb).trans (hcy i hi)
            have hb := Nat.lt_of_lt_of_le hb g.size
            clear g
            have qd12 := heap_alloc_new w6 (.cells zS 28)
            go_wp2_with ((with_reducible refine wpList_store_row (o := ⟨none, _, _, _, _, _⟩) rfl 28 (.tmp 12) (.tmp 62) rfl _ (snA y) rfl rfl _ zS qd12 (infoSA y) (zS_size.trans (snA_size y).symm) (snA_one y) ?_); (obtain ⟨w7, hWn⟩ : ∃ W, W = (World.alloc w6 (.cells zS 28)).setRow w6.heap.size (snA y) := ⟨_, rfl⟩); rw [← hWn]; (have q12 : w7.heap[w6.heap.size]? = some (.cells (snA y) 28 (0, 0)) := by rw [hWn]; exact setRow_heap _ _ _ (snA y) _ _ qd12); (have gn : Below w6.heap.size w6 w7 := by rw [hWn]; exact below_row ((Below.refl _ _).alloc (Nat.le_refl _) _) (Nat.le_refl _) (snA y)); clear hWn; (have hS := chain hS gn); (have h7 := chain h7 gn); (have hcy : ∀ i, i < 36 → w7.cell? ⟨b, off + k * 36 + i, none⟩ = (snC y)[i]? := fun i hi => (gn.cell (p := ⟨b, off + k * 36 + i, none⟩) hb).trans (hcy i hi)); (have hb := Nat.lt_of_lt_of_le hb gn.size); clear gn)
            refine g_start (by kernel_rfl) ?_
            refine g_take (i := 0) (d := (some 71)) (v := ?_) rfl rfl (by kernel_rfl) (fun _ _ _ h => h) (by rfl) (fun w' hb' => ?_) ?_
            rotate_left
            · (try go_simp); (try with_reducible rfl)
            try simp only [Act.put, List.setIfInBounds_toArray, List.set_cons_zero, List.set_cons_succ]
            refine g_take (i := 1) (d := (some 72)) (v := ?_) rfl rfl (by kernel_rfl) (fun _ _ _ h => h) (by rfl) (fun w' hb' => ?_) ?_
            rotate_left
            · (try go_simp); (try with_reducible rfl)
            try simp only [Act.put, List.setIfInBounds_toArray, List.set_cons_zero, List.set_cons_succ]
            refine g_take (i := 2) (d := (some 73)) (v := ?_) rfl rfl (by kernel_rfl) (fun _ _ _ h => h) (by rfl) (fun w' hb' => ?_) ?_
            rotate_left
            · (try go_simp); (try with_reducible rfl)
            try simp only [Act.put, List.setIfInBounds_toArray, List.set_cons_zero, List.set_cons_succ]
            refine g_take (i := 3) (d := (some 74)) (v := ?_) rfl rfl (by kernel_rfl) (fun _ _ _ h => h) (by rfl) (fun w' hb' => ?_) ?_
            rotate_left
            · (try go_simp); (try with_reducible rfl)
            try simp only [Act.put, List.setIfInBounds_toArray, List.set_cons_zero, List.set_cons_succ]
            refine g_take (i := 4) (d := (some 75)) (v := ?_) rfl rfl (by kernel_rfl) (fun _ _ _ h => h) (by rfl) (fun w' hb' => ?_) ?_
            rotate_left
            · (try go_simp); (try with_reducible rfl)
            try simp only [Act.put, List.setIfInBounds_toArray, List.set_cons_zero, List.set_cons_succ]
            refine g_take (i := 5) (d := (some 76)) (v := ?_) rfl rfl (by kernel_rfl) (fun _ _ _ h => h) (by rfl) (fun w' hb' => ?_) ?_
            rotate_left
            · (try go_simp); (try with_reducible rfl)
            try simp only [Act.put, List.setIfInBounds_toArray, List.set_cons_zero, List.set_cons_succ]
            refine g_take (i := 6) (d := (some 77)) (v := ?_) rfl rfl (by kernel_rfl) (fun _ _ _ h => h) (by rfl) (fun w' hb' => ?_) ?_
            rotate_left
            · (try go_simp); (try with_reducible rfl)
            try simp only [Act.put, List.setIfInBounds_toArray, List.set_cons_zero, List.set_cons_succ]
            refine g_take (i := 7) (d := (some 78)) (v := ?_) rfl rfl (by kernel_rfl) (fun _ _ _ h => h) (by rfl) (fun w' hb' => ?_) ?_
            rotate_left
            · (try go_simp); (try with_reducible rfl)
            try simp only [Act.put, List.setIfInBounds_toArray, List.set_cons_zero, List.set_cons_succ]
            refine g_take (i := 8) (d := (some 79)) (v := ?_) rfl rfl (by kernel_rfl) (fun _ _ _ h => h) (by rfl) (fun w' hb' => ?_) ?_
            rotate_left
            · (try go_simp); (try with_reducible rfl)
            try simp only [Act.put, List.setIfInBounds_toArray, List.set_cons_zero, List.set_cons_succ]
            refine g_take (i := 9) (d := (some 80)) (v := ?_) rfl rfl (by kernel_rfl) (fun _ _ _ h => h) (by rfl) (fun w' hb' => ?_) ?_
            rotate_left
            · (try go_simp); (try with_reducible rfl)
            try simp only [Act.put, List.setIfInBounds_toArray, List.set_cons_zero, List.set_cons_succ]
            refine g_take (i := 10) (d := (some 81)) (v := ?_) rfl rfl (by kernel_rfl) (fun _ _ _ h => h) (by rfl) (fun w' hb' => ?_) ?_
            rotate_left
            · (try go_simp); (try with_reducible rfl)
            try simp only [Act.put, List.setIfInBounds_toArray, List.set_cons_zero, List.set_cons_succ]
            refine g_take (i := 11) (d := (some 82)) (v := ?_) rfl rfl (by kernel_rfl) (fun _ _ _ h => h) (by rfl) (fun w' hb' => ?_) ?_
            rotate_left
            · (refine load_row_op _ _ (.tmp 12) ?_ ?_ ((hb'.block _ (lt_of_block q12)).trans q12) Tryd.underlying28 ?_ (infoSA y) <;> rfl); (try go_simp); (try with_reducible rfl)
            try simp only [Act.put, List.setIfInBounds_toArray, List.set_cons_zero, List.set_cons_succ]
            refine g_take (i := 12) (d := (some 83)) (v := ?_) rfl rfl (by kernel_rfl) (fun _ _ _ h => h) (by rfl) (fun w' hb' => ?_) ?_
            rotate_left
            · (try go_simp); (try with_reducible rfl)
            try simp only [Act.put, List.setIfInBounds_toArray, List.set_cons_zero, List.set_cons_succ]
            refine g_take (i := 13) (d := (some 84)) (v := ?_) rfl rfl (by kernel_rfl) (fun _ _ _ h => h) (by rfl) (fun w' hb' => ?_) ?_
            rotate_left
            · (try go_simp); (try with_reducible rfl)
            try simp only [Act.put, List.setIfInBounds_toArray, List.set_cons_zero, List.set_cons_succ]
            refine g_take (i := 14) (d := (some 85)) (v := ?_) rfl rfl (by kernel_rfl) (fun _ _ _ h => h) (by rfl) (fun w' hb' => ?_) ?_
            rotate_left
            · (try go_simp); (try with_reducible rfl)
            try simp only [Act.put, List.setIfInBounds_toArray, List.set_cons_zero, List.set_cons_succ]
            refine g_take (i := 15) (d := (some 86)) (v := ?_) rfl rfl (by kernel_rfl) (fun _ _ _ h => h) (by rfl) (fun w' hb' => ?_) ?_
            rotate_left
            · (try go_simp); (try with_reducible rfl)
            try simp only [Act.put, List.setIfInBounds_toArray, List.set_cons_zero, List.set_cons_succ]
            refine g_take (i := 16) (d := (some 87)) (v := ?_) rfl rfl (by kernel_rfl) (fun _ _ _ h => h) (by rfl) (fun w' hb' => ?_) ?_
            rotate_left
            · (refine load_partO_op _ _ (.tmp 86) ?_ ?_ (sn_store (fun i hi => (hb'.cell (p := ⟨b, off + k * 36 + i, none⟩) hb).trans (hcy i hi))) Tryd.underlying28 ?_ (infoSA y) <;> rfl); (try go_simp); (try with_reducible rfl)
            try simp only [Act.put, List.setIfInBounds_toArray, List.set_cons_zero, List.set_cons_succ]
            refine g_run (i := 17) rfl (by kernel_rfl) (by rfl) (fun K hK => ?_)
            go_simp; refine (SMY.out _ (Below.drew hS)).mono ?_; rintro e u1 ⟨rfl, gg⟩; have h7 := chain (Below.drew h7) gg; have hS := chain (Below.drew hS) gg; refine hK _ _ ⟨gg, ?_⟩; clear hK K gg
            try simp only [Act.put, List.setIfInBounds_toArray, List.set_cons_zero, List.set_cons_succ]
            refine g_take (i := 18) (d := (some 89)) (v := ?_) rfl rfl (by kernel_rfl) (fun _ _ _ h => h) (by rfl) (fun w' hb' => ?_) ?_
            rotate_left
            · (try go_simp); (try with_reducible rfl)
            try simp only [Act.put, List.setIfInBounds_toArray, List.set_cons_zero, List.set_cons_succ]
            refine g_take (i := 19) (d := (some 90)) (v := ?_) rfl rfl (by kernel_rfl) (fun _ _ _ h => h) (by rfl) (fun w' hb' => ?_) ?_
            rotate_left
            · (try go_simp); (try with_reducible rfl)
            try simp only [Act.put, List.setIfInBounds_toArray, List.set_cons_zero, List.set_cons_succ]
            refine g_take (i := 20) (d := (some 91)) (v := ?_) rfl rfl (by kernel_rfl) (fun _ _ _ h => h) (by rfl) (fun w' hb' => ?_) ?_
            rotate_left
            · (try go_simp); (try with_reducible rfl)
            try simp only [Act.put, List.setIfInBounds_toArray, List.set_cons_zero, List.set_cons_succ]
            refine g_take (i := 21) (d := (some 92)) (v := ?_) rfl rfl (by kernel_rfl) (fun _ _ _ h => h) (by rfl) (fun w' hb' => ?_) ?_
            rotate_left
            · (try go_simp); (try with_reducible rfl)
            try simp only [Act.put, List.setIfInBounds_toArray, List.set_cons_zero, List.set_cons_succ]
            refine g_done (by kernel_rfl) ?_
            go_wp2_with fail
            exact ⟨⟨k + 1, by omega, by push_cast; rfl, h7⟩, by simp [intOf]; omega⟩
        · have e0 : ((k : Int) == 0) = false := by simp; omega
          have d0 : decide ((k : Int) = 0) = false := by simp; omega
          have XX := Lib.hid (at14_mem hIO.out (y := y) (by rw [HOUT.out, HY.out]; exact keep_stay hlt (.inl hk0)))
          clear hk0
          obtain ⟨x1, x2⟩ := XX.out
          have AT0 := fun W (g : Below w4.heap.size w4 W) => at14_any _ OUT y.q W (HTAB.out.below (chain B4.out g)) (RK7.out.below g (Nat.le_refl _)) (RS7.out.below g (Nat.le_refl _)) SZ7.out LN7.out
          unfold AtP at AT0
          rw [x1, x2] at AT0
          have AT := Lib.hid AT0
          clear AT0 x1 x2
          go_wp2_with fail
          refine (AT.out _ h7).mono ?_
          rintro e w6 ⟨rfl, g⟩
          have h7 := chain h7 g
          have hS := chain hS g
          have hcy : ∀ i, i < 36 → w6.cell? ⟨b, off + k * 36 + i, none⟩ = (snC y)[i]? := fun i hi => (g.cell (p := ⟨b, off + k * 36 + i, none⟩) hb).trans (hcy i hi)
          have hb := Nat.lt_of_lt_of_le hb g.size
          clear g
          have qd12 := heap_alloc_new w6 (.cells zS 28)
          go_wp2_with ((with_reducible refine wpList_store_row (o := ⟨none, _, _, _, _, _⟩) rfl 28 (.tmp 12) (.tmp 62) rfl _ (snA y) rfl rfl _ zS qd12 (infoSA y) (zS_size.trans (snA_size y).symm) (snA_one y) ?_); (obtain ⟨w7, hWn⟩ : ∃ W, W = (World.alloc w6 (.cells zS 28)).setRow w6.heap.size (snA y) := ⟨_, rfl⟩); rw [← hWn]; (have q12 : w7.heap[w6.heap.size]? = some (.cells (snA y) 28 (0, 0)) := by rw [hWn]; exact setRow_heap _ _ _ (snA y) _ _ qd12); (have gn : Below w6.heap.size w6 w7 := by rw [hWn]; exact below_row ((Below.refl _ _).alloc (Nat.le_refl _) _) (Nat.le_refl _) (snA y)); clear hWn; (have hS := chain hS gn); (have h7 := chain h7 gn); (have hcy : ∀ i, i < 36 → w7.cell? ⟨b, off + k * 36 + i, none⟩ = (snC y)[i]? := fun i hi => (gn.cell (p := ⟨b, off + k * 36 + i, none⟩) hb).trans (hcy i hi)); (have hb := Nat.lt_of_lt_of_le hb gn.size); clear gn)
          refine g_start (by kernel_rfl) ?_
          refine g_take (i := 0) (d := (some 71)) (v := ?_) rfl rfl (by kernel_rfl) (fun _ _ _ h => h) (by rfl) (fun w' hb' => ?_) ?_
          rotate_left
          · (try go_simp); (try with_reducible rfl)
          try simp only [Act.put, List.setIfInBounds_toArray, List.set_cons_zero, List.set_cons_succ]
          refine g_take (i := 1) (d := (some 72)) (v := ?_) rfl rfl (by kernel_rfl) (fun _ _ _ h => h) (by rfl) (fun w' hb' => ?_) ?_
          rotate_left
          · (try go_simp); (try with_reducible rfl)
          try simp only [Act.put, List.setIfInBounds_toArray, List.set_cons_zero, List.set_cons_succ]
          refine g_take (i := 2) (d := (some 73)) (v := ?_) rfl rfl (by kernel_rfl) (fun _ _ _ h => h) (by rfl) (fun w' hb' => ?_) ?_
          rotate_left
          · (try go_simp); (try with_reducible rfl)
          try simp only [Act.put, List.setIfInBounds_toArray, List.set_cons_zero, List.set_cons_succ]
          refine g_take (i := 3) (d := (some 74)) (v := ?_) rfl rfl (by kernel_rfl) (fun _ _ _ h => h) (by rfl) (fun w' hb' => ?_) ?_
          rotate_left
          · (try go_simp); (try with_reducible rfl)
          try simp only [Act.put, List.setIfInBounds_toArray, List.set_cons_zero, List.set_cons_succ]
          refine g_take (i := 4) (d := (some 75)) (v := ?_) rfl rfl (by kernel_rfl) (fun _ _ _ h => h) (by rfl) (fun w' hb' => ?_) ?_
          rotate_left
          · (try go_simp); (try with_reducible rfl)
          try simp only [Act.put, List.setIfInBounds_toArray, List.set_cons_zero, List.set_cons_succ]
          refine g_take (i := 5) (d := (some 76)) (v := ?_) rfl rfl (by kernel_rfl) (fun _ _ _ h => h) (by rfl) (fun w' hb' => ?_) ?_
          rotate_left
          · (try go_simp); (try with_reducible rfl)
          try simp only [Act.put, List.setIfInBounds_toArray, List.set_cons_zero, List.set_cons_succ]
          refine g_take (i := 6) (d := (some 77)) (v := ?_) rfl rfl (by kernel_rfl) (fun _ _ _ h => h) (by rfl) (fun w' hb' => ?_) ?_
          rotate_left
          · (try go_simp); (try with_reducible rfl)
          try simp only [Act.put, List.setIfInBounds_toArray, List.set_cons_zero, List.set_cons_succ]
          refine g_take (i := 7) (d := (some 78)) (v := ?_) rfl rfl (by kernel_rfl) (fun _ _ _ h => h) (by rfl) (fun w' hb' => ?_) ?_
          rotate_left
          · (try go_simp); (try with_reducible rfl)
          try simp only [Act.put, List.setIfInBounds_toArray, List.set_cons_zero, List.set_cons_succ]
          refine g_take (i := 8) (d := (some 79)) (v := ?_) rfl rfl (by kernel_rfl) (fun _ _ _ h => h) (by rfl) (fun w' hb' => ?_) ?_
          rotate_left
          · (try go_simp); (try with_reducible rfl)
          try simp only [Act.put, List.setIfInBounds_toArray, List.set_cons_zero, List.set_cons_succ]
          refine g_take (i := 9) (d := (some 80)) (v := ?_) rfl rfl (by kernel_rfl) (fun _ _ _ h => h) (by rfl) (fun w' hb' => ?_) ?_
          rotate_left
          · (try go_simp); (try with_reducible rfl)
          try simp only [Act.put, List.setIfInBounds_toArray, List.set_cons_zero, List.set_cons_succ]
          refine g_take (i := 10) (d := (some 81)) (v := ?_) rfl rfl (by kernel_rfl) (fun _ _ _ h => h) (by rfl) (fun w' hb' => ?_) ?_
          rotate_left
          · (try go_simp); (try with_reducible rfl)
          try simp only [Act.put, List.setIfInBounds_toArray, List.set_cons_zero, List.set_cons_succ]
          refine g_take (i := 11) (d := (some 82)) (v := ?_) rfl rfl (by kernel_rfl) (fun _ _ _ h => h) (by rfl) (fun w' hb' => ?_) ?_
          rotate_left
          · (refine load_row_op _ _ (.tmp 12) ?_ ?_ ((hb'.block _ (lt_of_block q12)).trans q12) Tryd.underlying28 ?_ (infoSA y) <;> rfl); (try go_simp); (try with_reducible rfl)
          try simp only [Act.put, List.setIfInBounds_toArray, List.set_cons_zero, List.set_cons_succ]
          refine g_take (i := 12) (d := (some 83)) (v := ?_) rfl rfl (by kernel_rfl) (fun _ _ _ h => h) (by rfl) (fun w' hb' => ?_) ?_
          rotate_left
          · (try go_simp); (try with_reducible rfl)
          try simp only [Act.put, List.setIfInBounds_toArray, List.set_cons_zero, List.set_cons_succ]
          refine g_take (i := 13) (d := (some 84)) (v := ?_) rfl rfl (by kernel_rfl) (fun _ _ _ h => h) (by rfl) (fun w' hb' => ?_) ?_
          rotate_left
          · (try go_simp); (try with_reducible rfl)
          try simp only [Act.put, List.setIfInBounds_toArray, List.set_cons_zero, List.set_cons_succ]
          refine g_take (i := 14) (d := (some 85)) (v := ?_) rfl rfl (by kernel_rfl) (fun _ _ _ h => h) (by rfl) (fun w' hb' => ?_) ?_
          rotate_left
          · (try go_simp); (try with_reducible rfl)
          try simp only [Act.put, List.setIfInBounds_toArray, List.set_cons_zero, List.set_cons_succ]
          refine g_take (i := 15) (d := (some 86)) (v := ?_) rfl rfl (by kernel_rfl) (fun _ _ _ h => h) (by rfl) (fun w' hb' => ?_) ?_
          rotate_left
          · (try go_simp); (try with_reducible rfl)
          try simp only [Act.put, List.setIfInBounds_toArray, List.set_cons_zero, List.set_cons_succ]
          refine g_take (i := 16) (d := (some 87)) (v := ?_) rfl rfl (by kernel_rfl) (fun _ _ _ h => h) (by rfl) (fun w' hb' => ?_) ?_
          rotate_left
          · (refine load_partO_op _ _ (.tmp 86) ?_ ?_ (sn_store (fun i hi => (hb'.cell (p := ⟨b, off + k * 36 + i, none⟩) hb).trans (hcy i hi))) Tryd.underlying28 ?_ (infoSA y) <;> rfl); (try go_simp); (try with_reducible rfl)
          try simp only [Act.put, List.setIfInBounds_toArray, List.set_cons_zero, List.set_cons_succ]
          refine g_run (i := 17) rfl (by kernel_rfl) (by rfl) (fun K hK => ?_)
          go_simp; refine (SMY.out _ (Below.drew hS)).mono ?_; rintro e u1 ⟨rfl, gg⟩; have h7 := chain (Below.drew h7) gg; have hS := chain (Below.drew hS) gg; refine hK _ _ ⟨gg, ?_⟩; clear hK K gg
          try simp only [Act.put, List.setIfInBounds_toArray, List.set_cons_zero, List.set_cons_succ]
          refine g_take (i := 18) (d := (some 89)) (v := ?_) rfl rfl (by kernel_rfl) (fun _ _ _ h => h) (by rfl) (fun w' hb' => ?_) ?_
          rotate_left
          · (try go_simp); (try with_reducible rfl)
          try simp only [Act.put, List.setIfInBounds_toArray, List.set_cons_zero, List.set_cons_succ]
          refine g_take (i := 19) (d := (some 90)) (v := ?_) rfl rfl (by kernel_rfl) (fun _ _ _ h => h) (by rfl) (fun w' hb' => ?_) ?_
          rotate_left
          · (try go_simp); (try with_reducible rfl)
          try simp only [Act.put, List.setIfInBounds_toArray, List.set_cons_zero, List.set_cons_succ]
          refine g_take (i := 20) (d := (some 91)) (v := ?_) rfl rfl (by kernel_rfl) (fun _ _ _ h => h) (by rfl) (fun w' hb' => ?_) ?_
          rotate_left
          · (try go_simp); (try with_reducible rfl)
          try simp only [Act.put, List.setIfInBounds_toArray, List.set_cons_zero, List.set_cons_succ]
          refine g_take (i := 21) (d := (some 92)) (v := ?_) rfl rfl (by kernel_rfl) (fun _ _ _ h => h) (by rfl) (fun w' hb' => ?_) ?_
          rotate_left
          · (try go_simp); (try with_reducible rfl)
          try simp only [Act.put, List.setIfInBounds_toArray, List.set_cons_zero, List.set_cons_succ]
          refine g_done (by kernel_rfl) ?_
          go_wp2_with fail
          exact ⟨⟨k + 1, by omega, by push_cast; rfl, h7⟩, by simp [intOf]; omega⟩
      · obtain rfl : k = L1.length := by omega
        go_wp2_with fail
        refine (AW.out _ hS).mono ?_
        rintro e wz ⟨rfl, g⟩
        have hS := chain hS g
        clear g
        go_wp2_with fail
        go_ret
        exact ⟨rfl, chain BW.out hS⟩
  · have HKN := Lib.hid hk0
    obtain ⟨N, hN⟩ : ∃ n, n = keepE L1 x := ⟨_, rfl⟩
    have en : ((N : Int) != 0) = true := by simp; omega
    have HN := Lib.hid hN
    clear hk0 hN
    go_wp2_with (with_reducible refine wpList_load_row (o := ⟨some 22, _, _, _, _, _⟩) rfl 28 (.tmp 5) rfl _ rfl _ CF (0, 0) _ q5 Tryd.underlying28 rfl hiF ?_)
    refine KP.out.mono ?_
    rintro e w4 ⟨-, hk, g⟩
    obtain rfl := hk HKN.out
    rw [← HN.out]
    have hS := chain hS g
    clear hk g
    go_wp2_with fail
    refine (AW.out _ hS).mono ?_
    rintro e wz ⟨rfl, g⟩
    have hS := chain hS g
    clear g
    go_wp2_with fail
    go_ret
    exact ⟨rfl, chain BW.out hS⟩
theorem snapstays_row (v : Value) (L : List Sn) (q : Int) (cs : Array Value) (s : St) (w : World) (h : RdK 36 snC w v L) (hrs : RdSn w L) (hsz : SzSn L) (hq : (Lit.int .i64 q).wf = true) (hx : RdS w cs s) (hxz : SzT s.lv) (hxw : WfT s.lv) (tab : TabAt w) :
    Calls Tryd.prog 12 #[v, .int .i64 q, .agg cs] w fun e w' => e = .returned (.bool true) ∧ Below w.heap.size w w' := snapstays_any v L q cs s w tab h hrs hsz hx hxz hxw
end Go.Proofs.YtbdfcgffkonbiaaDoor
