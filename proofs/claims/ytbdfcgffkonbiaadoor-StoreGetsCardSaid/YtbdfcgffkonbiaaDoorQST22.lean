/- Trunks: the document's Put and Delete. Written by wip/tools/gen10l.py. -/
import Derived.Test.YtbdfcgffkonbiaaDoorQST21
namespace Go.Proofs.YtbdfcgffkonbiaaDoor
open Go Go.RowKit
set_option linter.unusedVariables false
set_option linter.unusedSimpArgs false
theorem gTB_found {lv : Nat → List It} {vs : Nat → Int} {k : List UInt8} (h : mayTs lv vs 16 = true) (hk : isB k = true) : gTB lv k = foundL (lv (bkN k)) k := by
  have hl := isT h (bkN_lt k)
  unfold gTB gB
  rw [hk, hl]
  rcases atL_found (k := k) hl with ⟨hf, _, _, ha⟩ | ⟨hf, _, ha⟩
  · rw [hf, ha]; rfl
  · rw [hf, ha]; rfl
theorem isB_len {k : List UInt8} (h : isB k = true) : 0 < k.length := by unfold isB at h; simp only [Bool.and_eq_true, decide_eq_true_eq] at h; exact h.1
theorem mayI_key {x : It} (h : mayI x = true) : isB x.key = true := by unfold mayI at h; simp only [Bool.and_eq_true] at h; exact h.1
/-- What comes of putting an item that may be into a trunk that may be. -/
theorem putTE_of {lv : Nat → List It} {vs : Nat → Int} {x : It} (hm : mayTs lv vs 16 = true) (hx : mayI x = true) :
    putTE lv vs x = if x.ver < vs (bkN x.key) then 18 else if gTB lv x.key = false ∧ (lv (bkN x.key)).length = 64 then 5 else 0 := by
  have hk := mayI_key hx
  have hl := isT hm (bkN_lt x.key)
  unfold putTE
  have hp : putE (lv (bkN x.key)) x = if foundL (lv (bkN x.key)) x.key = false ∧ (lv (bkN x.key)).length = 64 then 5 else 0 := by
    unfold putE; rw [if_pos ⟨hl, hx⟩]
  rw [if_pos ⟨hm, hk⟩, gTB_found hm hk, hp]
  by_cases h1 : x.ver < vs (bkN x.key)
  · rw [if_pos h1, if_pos ⟨by split <;> decide, h1⟩]
  · rw [if_neg (fun h => h1 h.2), if_neg h1]
theorem delTE_of {lv : Nat → List It} {vs : Nat → Int} {k : List UInt8} {ver : Int} (hm : mayTs lv vs 16 = true) (hv : verB ver = true) :
    delTE lv vs k ver = if gTB lv k = false then 6 else if ver < vs (bkN k) then 18 else 0 := by
  unfold delTE
  rw [if_neg (by simp [hm, hv])]
  cases hk : isB k with
  | false => rw [if_pos rfl]; unfold gTB; rw [hk]; simp
  | true =>
    have hl := isT hm (bkN_lt k)
    rw [if_neg (by simp), gTB_found hm hk]
    unfold delE
    rw [if_pos hl]
    cases hf : foundL (lv (bkN k)) k with
    | true => simp
    | false => simp
set_option maxRecDepth 100000 in
set_option maxHeartbeats 2000000 in
theorem refPut10_any (cs : Array Value) (lv : Nat → List It) (vs : Nat → Int) (x : It) (w : World) (tab : TabAt w) (h : RdT w cs lv vs) (hsz : SzT lv) (hm : mayTs lv vs 16 = true) (hx : mayI x = true) (hxk : x.key.length ≤ maxLen) :
    Calls Tryd.prog 78 #[.agg cs, itV x] w (PutP w cs lv vs x) := by
  have hs := infoTc h.size
  have HT := Lib.hid h
  have z0 := zeroT_run
  have z1 := zT_ne
  obtain ⟨q2, q3, q4, zs⟩ := allocs3 w (.cells cs 26) (.cells #[.string (str x.key), .int .i64 x.v.k, .int .i64 x.v.i, .string (str x.v.s), .int .i64 x.ver] 53 ) (.cells zT 26)
  have bel : Below w.heap.size w (((w.alloc (.cells cs 26)).alloc (.cells #[.string (str x.key), .int .i64 x.v.k, .int .i64 x.v.i, .string (str x.v.s), .int .i64 x.ver] 53 )).alloc (.cells zT 26)) := (((Below.refl _ w).alloc (Nat.le_refl _) _).alloc (by simp) _).alloc (by simp; omega) _
  obtain ⟨Z, hZ⟩ : ∃ Z, Z = PutP w cs lv vs x := ⟨_, rfl⟩
  rw [← hZ]
  unfold PutP at hZ
  rw [putTE_of hm hx] at hZ
  have hb16 := bkN_lt x.key
  have BK := Lib.hid (refBucket_any x.key hxk (isB_len (mayI_key hx)))
  have l64 := isL_len (isT hm hb16)
  have GT0 := fun W (g : Below w.heap.size w W) => refGet10_any cs lv vs x.key W (h.below g (Nat.le_refl _)) hm
  obtain ⟨X, hX⟩ : ∃ X, X = gTI lv x.key := ⟨_, rfl⟩
  obtain ⟨Y, hY⟩ : ∃ Y, Y = gTB lv x.key := ⟨_, rfl⟩
  rw [← hX, ← hY] at GT0
  rw [← hY] at hZ
  have GT := Lib.hid GT0
  have HSB := Lib.hid (hsz _ hb16)
  obtain ⟨b, hbk⟩ : ∃ b, b = bkN x.key := ⟨_, rfl⟩
  rw [← hbk] at BK hb16 l64 HSB
  have hb16i : (b : Int) < 16 := by omega
  obtain ⟨u0, hu0, hru0⟩ := h.leaf b hb16
  have HU := Lib.hid hu0
  have HV := Lib.hid (h.ver b hb16)
  have WI := Lib.hid (fun W (h : RdI W u0 (lv b)) => refWith_any u0 (lv b) x W h HSB.out hxk (by omega))
  have HRU := Lib.hid hru0
  obtain ⟨ao, cap, rfl, hc0, hm0, hr0⟩ := RdK.open hru0
  have hn64 : ((lv b).length : Int) ≤ 64 := by omega
  unfold itV
  clear h hsz hm hx hX hY GT0 hu0 hru0 hr0
  by_cases hv : x.ver < vs (bkN x.key)
  · rw [if_pos hv, if_neg (by decide)] at hZ
    have HZ := Lib.hid hZ
    rw [← hbk] at hv
    have hvb : decide (x.ver < vs b) = true := by simpa using hv
    obtain ⟨V, hV⟩ : ∃ V, V = vs b := ⟨_, rfl⟩
    rw [← hV] at hvb HV
    clear hZ hv hbk hV
    go_enter Tryd.func78, Tryd.ntmps78
    go_wp2_with fail
    obtain ⟨W0, hW0⟩ : ∃ W0, W0 = ((w.alloc (.cells cs 26)).alloc (.cells #[.string (str x.key), .int .i64 x.v.k, .int .i64 x.v.i, .string (str x.v.s), .int .i64 x.ver] 53 )).alloc (.cells zT 26) := ⟨_, rfl⟩
    rw [← hW0] at q2 q3 q4 bel ⊢
    clear hW0
    refine (BK.out _).mono ?_
    rintro e w1 ⟨rfl, rfl⟩
    have e2 := (block_cell q2 (16 + b)).trans HV.out
    have e3 := e2
    rw [Nat.add_comm 16 b] at e3
    obtain ⟨d0, d1, d2, d3, d4, dz⟩ := block_cells5 q3
    go_wp2_with fail
    go_quiet (fail)
    clear d0 d1 d2 d3 d4 dz
    have q4 : (W0.drewN nq).heap[w.heap.size + 2]? = some (.cells zT 26 (0, 0)) := q4
    have bel := below_drewN (k := nq) bel
    go_wp2_with (with_reducible refine wpList_store_row (o := ⟨none, _, _, _, _, _⟩) rfl 26 (.tmp 4) (.tmp 19) rfl _ zT rfl rfl _ zT q4 (infoTc zT_size) rfl zT_one ?_)
    rw [setRow_self _ _ _ _ _ q4]
    go_wp2_with fail
    refine bodyPost_ret (v := .tuple #[.agg zT, .int .i64 18]) (results_row_tmp rfl _ _ _ _ zT (0, 0) _ _ rfl rfl q4 Tryd.underlying26 rfl (infoTc zT_size)) rfl ?_
    rw [HZ.out]; exact ⟨rfl, bel⟩
  · rw [if_neg hv] at hZ
    rw [← hbk] at hv
    have hvb : decide (x.ver < vs b) = false := by simpa using hv
    obtain ⟨V, hV⟩ : ∃ V, V = vs b := ⟨_, rfl⟩
    rw [← hV] at hvb HV
    by_cases hf : Y = false ∧ (lv (bkN x.key)).length = 64
    · rw [if_pos hf, if_neg (by decide)] at hZ
      have HZ := Lib.hid hZ
      obtain ⟨rfl, hlen⟩ := hf
      rw [← hbk] at hlen
      have hl1 : (((lv b).length : Int) == 64) = true := by simp [hlen]
      clear hZ hv hbk hV hlen
      go_enter Tryd.func78, Tryd.ntmps78
      go_wp2_with fail
      obtain ⟨W0, hW0⟩ : ∃ W0, W0 = ((w.alloc (.cells cs 26)).alloc (.cells #[.string (str x.key), .int .i64 x.v.k, .int .i64 x.v.i, .string (str x.v.s), .int .i64 x.ver] 53 )).alloc (.cells zT 26) := ⟨_, rfl⟩
      rw [← hW0] at q2 q3 q4 bel ⊢
      clear hW0
      refine (BK.out _).mono ?_
      rintro e w1 ⟨rfl, rfl⟩
      have e2 := (block_cell q2 (16 + b)).trans HV.out
      have e3 := e2
      rw [Nat.add_comm 16 b] at e3
      obtain ⟨d0, d1, d2, d3, d4, dz⟩ := block_cells5 q3
      go_wp2_with fail
      go_quiet (fail)
      clear d0 d1 d2 d3 d4 dz
      have q2 : (W0.drewN nq).heap[w.heap.size]? = some (.cells cs 26 (0, 0)) := q2
      have q3 : (W0.drewN nq).heap[w.heap.size + 1]? = some (.cells #[.string (str x.key), .int .i64 x.v.k, .int .i64 x.v.i, .string (str x.v.s), .int .i64 x.ver] 53 (0, 0)) := q3
      have q4 : (W0.drewN nq).heap[w.heap.size + 2]? = some (.cells zT 26 (0, 0)) := q4
      have bel := below_drewN (k := nq) bel
      obtain ⟨W1, hW1⟩ : ∃ W1, W1 = W0.drewN nq := ⟨_, rfl⟩
      rw [← hW1] at q2 q3 q4 bel ⊢
      clear hW1 e2 e3
      obtain ⟨d0, d1, d2, d3, d4, dz⟩ := block_cells5 q3
      go_wp2_with (with_reducible refine wpList_load_row (o := ⟨some 21, _, _, _, _, _⟩) rfl 26 (.tmp 2) rfl _ rfl _ cs (0, 0) _ q2 Tryd.underlying26 rfl hs ?_)
      refine (GT.out _ bel).mono ?_
      rintro e wg ⟨rfl, g⟩
      have q2 := (g.block _ (lt_of_block q2)).trans q2
      have q4 := (g.block _ (lt_of_block q4)).trans q4
      have bel := chain bel g
      clear g d0 d1 d2 d3 d4 dz
      have o1 := heap_alloc_old wg (.cells #[.string (str X.key), .int .i64 X.v.k, .int .i64 X.v.i, .string (str X.v.s), .int .i64 X.ver] 53 ) (lt_of_block q2)
      have o2 := heap_alloc_old wg (.cells #[.string (str X.key), .int .i64 X.v.k, .int .i64 X.v.i, .string (str X.v.s), .int .i64 X.ver] 53 ) (lt_of_block q4)
      have q2 := o1.trans q2
      have q4 := o2.trans q4
      have bel := bel.alloc bel.size (.cells #[.string (str X.key), .int .i64 X.v.k, .int .i64 X.v.i, .string (str X.v.s), .int .i64 X.ver] 53 )
      have c1 := (block_cell q2 b).trans HU.out
      clear o1 o2
      unfold itV
      go_wp2_with (with_reducible refine wpList_store_row (o := ⟨none, _, _, _, _, _⟩) rfl 26 (.tmp 4) (.tmp 37) rfl _ zT rfl rfl _ zT q4 (infoTc zT_size) rfl zT_one ?_)
      rw [setRow_self _ _ _ _ _ q4]
      go_wp2_with fail
      refine bodyPost_ret (v := .tuple #[.agg zT, .int .i64 5]) (results_row_tmp rfl _ _ _ _ zT (0, 0) _ _ rfl rfl q4 Tryd.underlying26 rfl (infoTc zT_size)) rfl ?_
      rw [HZ.out]; exact ⟨rfl, bel⟩
    · rw [if_neg hf, if_pos rfl] at hZ
      have HZ := Lib.hid hZ
      have hbk' : bkN x.key = b := hbk.symm
      rw [hbk'] at hf
      have hYl : (Y = false → ((lv b).length == 64) = false) ∧ (Y = false → (((lv b).length : Int) == 64) = false) := ⟨fun h => by rw [beq_eq_false_iff_ne]; exact fun e => hf ⟨h, e⟩, fun h => by rw [beq_eq_false_iff_ne]; exact fun e => hf ⟨h, by omega⟩⟩
      have HYL := Lib.hid hYl
      have HBK := Lib.hid hbk'
      clear hZ hv hbk hV hf hYl hbk'
      cases Y with
      | true =>
        go_enter Tryd.func78, Tryd.ntmps78
        go_wp2_with fail
        obtain ⟨W0, hW0⟩ : ∃ W0, W0 = ((w.alloc (.cells cs 26)).alloc (.cells #[.string (str x.key), .int .i64 x.v.k, .int .i64 x.v.i, .string (str x.v.s), .int .i64 x.ver] 53 )).alloc (.cells zT 26) := ⟨_, rfl⟩
        rw [← hW0] at q2 q3 q4 bel ⊢
        clear hW0
        refine (BK.out _).mono ?_
        rintro e w1 ⟨rfl, rfl⟩
        have e2 := (block_cell q2 (16 + b)).trans HV.out
        have e3 := e2
        rw [Nat.add_comm 16 b] at e3
        obtain ⟨d0, d1, d2, d3, d4, dz⟩ := block_cells5 q3
        go_wp2_with fail
        go_quiet (fail)
        clear d0 d1 d2 d3 d4 dz
        have q2 : (W0.drewN nq).heap[w.heap.size]? = some (.cells cs 26 (0, 0)) := q2
        have q3 : (W0.drewN nq).heap[w.heap.size + 1]? = some (.cells #[.string (str x.key), .int .i64 x.v.k, .int .i64 x.v.i, .string (str x.v.s), .int .i64 x.ver] 53 (0, 0)) := q3
        have q4 : (W0.drewN nq).heap[w.heap.size + 2]? = some (.cells zT 26 (0, 0)) := q4
        have bel := below_drewN (k := nq) bel
        obtain ⟨W1, hW1⟩ : ∃ W1, W1 = W0.drewN nq := ⟨_, rfl⟩
        rw [← hW1] at q2 q3 q4 bel ⊢
        clear hW1 e2 e3
        obtain ⟨d0, d1, d2, d3, d4, dz⟩ := block_cells5 q3
        go_wp2_with (with_reducible refine wpList_load_row (o := ⟨some 21, _, _, _, _, _⟩) rfl 26 (.tmp 2) rfl _ rfl _ cs (0, 0) _ q2 Tryd.underlying26 rfl hs ?_)
        refine (GT.out _ bel).mono ?_
        rintro e wg0 ⟨rfl, g⟩
        have q2 := (g.block _ (lt_of_block q2)).trans q2
        have q3 := (g.block _ (lt_of_block q3)).trans q3
        have q4 := (g.block _ (lt_of_block q4)).trans q4
        have bel := chain bel g
        clear g d0 d1 d2 d3 d4 dz
        have q2 := (heap_alloc_old wg0 (.cells #[.string (str X.key), .int .i64 X.v.k, .int .i64 X.v.i, .string (str X.v.s), .int .i64 X.ver] 53 ) (lt_of_block q2)).trans q2
        have q3 := (heap_alloc_old wg0 (.cells #[.string (str X.key), .int .i64 X.v.k, .int .i64 X.v.i, .string (str X.v.s), .int .i64 X.ver] 53 ) (lt_of_block q3)).trans q3
        have q4 := (heap_alloc_old wg0 (.cells #[.string (str X.key), .int .i64 X.v.k, .int .i64 X.v.i, .string (str X.v.s), .int .i64 X.ver] 53 ) (lt_of_block q4)).trans q4
        have bel := bel.alloc bel.size (.cells #[.string (str X.key), .int .i64 X.v.k, .int .i64 X.v.i, .string (str X.v.s), .int .i64 X.ver] 53 )
        have c1 := (block_cell q2 b).trans HU.out
        unfold itV
        go_wp2_with fail
        obtain ⟨wg, hwg⟩ : ∃ wg, wg = wg0.alloc (.cells #[.string (str X.key), .int .i64 X.v.k, .int .i64 X.v.i, .string (str X.v.s), .int .i64 X.ver] 53 ) := ⟨_, rfl⟩
        rw [← hwg] at q2 q3 q4 bel ⊢
        clear hwg c1
        have HL := Lib.hid (lt_of_block q4)
        have WI := Lib.hid (fun W (g : Below wg.heap.size wg W) => WI.out W (HRU.out.below (chain bel g) (Nat.le_refl _)))
        refine t_start 9 (by kernel_rfl) ?_
        refine t_take (i := 0) (d := (some 38)) (v := ?_) rfl rfl (by kernel_rfl) (fun _ _ _ h => h) (by rfl) (fun w' hb' => ?_) ?_
        rotate_left
        · (try go_simp); (try with_reducible rfl)
        try simp only [Act.put, List.setIfInBounds_toArray, List.set_cons_zero, List.set_cons_succ]
        refine t_take (i := 1) (d := (some 39)) (v := ?_) rfl rfl (by kernel_rfl) (fun _ _ _ h => h) (by rfl) (fun w' hb' => ?_) ?_
        rotate_left
        · (try go_simp); (try with_reducible rfl)
        try simp only [Act.put, List.setIfInBounds_toArray, List.set_cons_zero, List.set_cons_succ]
        refine t_take (i := 2) (d := (some 40)) (v := ?_) rfl rfl (by kernel_rfl) (fun _ _ _ h => h) (by rfl) (fun w' hb' => ?_) ?_
        rotate_left
        · (try go_simp); (try with_reducible rfl)
        try simp only [Act.put, List.setIfInBounds_toArray, List.set_cons_zero, List.set_cons_succ]
        refine t_take (i := 3) (d := (some 41)) (v := ?_) rfl rfl (by kernel_rfl) (fun _ _ _ h => h) (by rfl) (fun w' hb' => ?_) ?_
        rotate_left
        · (try go_simp); (try with_reducible rfl)
        try simp only [Act.put, List.setIfInBounds_toArray, List.set_cons_zero, List.set_cons_succ]
        refine t_take (i := 4) (d := (some 42)) (v := ?_) rfl rfl (by kernel_rfl) (fun _ _ _ h => h) (by rfl) (fun w' hb' => ?_) ?_
        rotate_left
        · have zz := (hb'.cell (p := ⟨w.heap.size, b, none⟩) (lt_of_block q2)).trans ((block_cell q2 b).trans HU.out); (try go_simp); (try with_reducible rfl)
        try simp only [Act.put, List.setIfInBounds_toArray, List.set_cons_zero, List.set_cons_succ]
        refine t_take (i := 5) (d := (some 43)) (v := ?_) rfl rfl (by kernel_rfl) (fun _ _ _ h => h) (by rfl) (fun w' hb' => ?_) ?_
        rotate_left
        · obtain ⟨d0, d1, d2, d3, d4, dz⟩ := block_cells5 ((hb'.block _ (lt_of_block q3)).trans q3); (try go_simp); (try with_reducible rfl)
        try simp only [Act.put, List.setIfInBounds_toArray, List.set_cons_zero, List.set_cons_succ]
        refine t_take (i := 7) (d := (some 45)) (v := ?_) rfl rfl (by kernel_rfl) (fun _ _ _ h => h) (by rfl) (fun w' hb' => ?_) ?_
        rotate_left
        · (try go_simp); (try with_reducible rfl)
        try simp only [Act.put, List.setIfInBounds_toArray, List.set_cons_zero, List.set_cons_succ]
        refine t_run (i := 6) rfl (by kernel_rfl) (by kernel_rfl) (by rfl) (fun K hK => ?_)
        go_simp; refine (WI.out _ (Below.drew (Below.refl _ _))).mono ?_; rintro e w4 ⟨v1, rfl, own, gg⟩; have g1 := Below.trans (Below.drew (Below.refl wg.heap.size wg)) gg; have q2 := (g1.block _ (lt_of_block q2)).trans q2; have q3 := (g1.block _ (lt_of_block q3)).trans q3; have q4 := (g1.block _ (lt_of_block q4)).trans q4; have bel := chain bel g1; obtain ⟨a1, n1, c1, rfl⟩ := own_slice own; replace own : w4.ownsRow wg.heap.size 53 5 _ _ _ := own; refine hK _ _ ⟨gg, ?_⟩; clear hK K gg g1
        try simp only [Act.put, List.setIfInBounds_toArray, List.set_cons_zero, List.set_cons_succ]
        refine t_take (i := 8) (d := (some 46)) (v := ?_) rfl rfl (by kernel_rfl) (fun _ _ _ h => h) (by rfl) (fun w' hb' => ?_) ?_
        rotate_left
        · (try go_simp); (try with_reducible rfl)
        try simp only [Act.put, List.setIfInBounds_toArray, List.set_cons_zero, List.set_cons_succ]
        refine t_last (i := 9) rfl (by kernel_rfl) (by kernel_rfl) (by kernel_rfl) (by rfl) (fun K hK => ?_)
        have e1 := (block_cell q2 b).trans HU.out
        have f1 := block_frozen q2 b
        go_simp
        refine hK _ _ ?_
        clear hK K e1 f1
        have hbk' := HBK.out
        have q21 := set_at (i := b) (u := .slice a1 n1 c1) q2
        have e2 := (block_cell q21 (16 + b)).trans (Array.getElem?_setIfInBounds_ne (by omega) |>.trans HV.out)
        have f2 := block_frozen q21 (16 + b)
        have e3 := e2
        have f3 := f2
        rw [Nat.add_comm 16 b] at e3 f3
        have q31 : (w4.setCell ⟨w.heap.size, b, none⟩ (.slice a1 n1 c1)).heap[w.heap.size + 1]? = some (.cells #[.string (str x.key), .int .i64 x.v.k, .int .i64 x.v.i, .string (str x.v.s), .int .i64 x.ver] 53 (0, 0)) := by rw [set_old (by omega)]; exact q3
        obtain ⟨d0, d1, d2, d3, d4, dz⟩ := block_cells5 q31
        clear q21 q31
        have q2s := two_cells (i := b) (j := 16 + b) (u := .slice a1 n1 c1) (v := .int .i64 x.ver) q2
        obtain ⟨CS, hCS⟩ : ∃ CS, CS = (cs.setIfInBounds b (.slice a1 n1 c1)).setIfInBounds (16 + b) (.int .i64 x.ver) := ⟨_, rfl⟩
        rw [← hCS] at q2s
        have q4s : ((w4.setCell ⟨w.heap.size, b, none⟩ (.slice a1 n1 c1)).setCell ⟨w.heap.size, 16 + b, none⟩ (.int .i64 x.ver)).heap[w.heap.size + 2]? = some (.cells zT 26 (0, 0)) := by rw [set_old (by omega), set_old (by omega)]; exact q4
        have q9 := setRow_heap _ _ _ CS _ _ q4s
        have bel9 := below_row (g := w.heap.size + 2) ((bel.setCell (p := ⟨w.heap.size, b, none⟩) (Nat.le_refl _) (.slice a1 n1 c1)).setCell (p := ⟨w.heap.size, 16 + b, none⟩) (Nat.le_refl _) (.int .i64 x.ver)) (by omega) CS
        have own9 := own_moved (w' := (((w4.setCell ⟨w.heap.size, b, none⟩ (.slice a1 n1 c1)).setCell ⟨w.heap.size, 16 + b, none⟩ (.int .i64 x.ver)).setRow (w.heap.size + 2) CS)) own (fun g hg => by
          have := HL.out
          rw [setRow_other _ _ _ _ (by omega), set_old (by omega), set_old (by omega)])
        have RT := (HT.out.below bel9 (Nat.le_refl _)).put (b := b) hb16 (v := x.ver) (own_rdk itC_len own9)
        rw [← hCS] at RT
        have HC2 := infoTc RT.size
        have hcs2 : zT.size = CS.size := by rw [RT.size]; rfl
        have hone := RT.one
        have OWN9 := Lib.hid (own_base (b' := w.heap.size) own9 (by have := HL.out; omega))
        have BEL9 := Lib.hid bel9
        have Q9 := Lib.hid q9
        have HCS := Lib.hid hCS
        clear hCS q9 RT own own9 bel9
        go_wp2_with (first | (with_reducible refine wpList_load_row (o := ⟨some 52, _, _, _, _, _⟩) rfl 26 (.tmp 2) rfl _ rfl _ CS (0, 0) _ q2s Tryd.underlying26 rfl HC2 ?_) | (with_reducible refine wpList_store_row (o := ⟨none, _, _, _, _, _⟩) rfl 26 (.tmp 4) (.tmp 52) rfl _ CS rfl rfl _ zT q4s HC2 hcs2 hone ?_))
        refine bodyPost_ret (v := .tuple #[.agg CS, .int .i64 0]) (results_row_tmp rfl _ _ _ _ CS (0, 0) _ _ rfl rfl Q9.out Tryd.underlying26 rfl HC2) rfl ?_
        rw [HZ.out, hbk']; exact ⟨_, by rw [HCS.out], OWN9.out, BEL9.out⟩
      | false =>
        have hl1 := HYL.out.2 rfl
        go_enter Tryd.func78, Tryd.ntmps78
        go_wp2_with fail
        obtain ⟨W0, hW0⟩ : ∃ W0, W0 = ((w.alloc (.cells cs 26)).alloc (.cells #[.string (str x.key), .int .i64 x.v.k, .int .i64 x.v.i, .string (str x.v.s), .int .i64 x.ver] 53 )).alloc (.cells zT 26) := ⟨_, rfl⟩
        rw [← hW0] at q2 q3 q4 bel ⊢
        clear hW0
        refine (BK.out _).mono ?_
        rintro e w1 ⟨rfl, rfl⟩
        have e2 := (block_cell q2 (16 + b)).trans HV.out
        have e3 := e2
        rw [Nat.add_comm 16 b] at e3
        obtain ⟨d0, d1, d2, d3, d4, dz⟩ := block_cells5 q3
        go_wp2_with fail
        go_quiet (fail)
        clear d0 d1 d2 d3 d4 dz
        have q2 : (W0.drewN nq).heap[w.heap.size]? = some (.cells cs 26 (0, 0)) := q2
        have q3 : (W0.drewN nq).heap[w.heap.size + 1]? = some (.cells #[.string (str x.key), .int .i64 x.v.k, .int .i64 x.v.i, .string (str x.v.s), .int .i64 x.ver] 53 (0, 0)) := q3
        have q4 : (W0.drewN nq).heap[w.heap.size + 2]? = some (.cells zT 26 (0, 0)) := q4
        have bel := below_drewN (k := nq) bel
        obtain ⟨W1, hW1⟩ : ∃ W1, W1 = W0.drewN nq := ⟨_, rfl⟩
        rw [← hW1] at q2 q3 q4 bel ⊢
        clear hW1 e2 e3
        obtain ⟨d0, d1, d2, d3, d4, dz⟩ := block_cells5 q3
        go_wp2_with (with_reducible refine wpList_load_row (o := ⟨some 21, _, _, _, _, _⟩) rfl 26 (.tmp 2) rfl _ rfl _ cs (0, 0) _ q2 Tryd.underlying26 rfl hs ?_)
        refine (GT.out _ bel).mono ?_
        rintro e wg0 ⟨rfl, g⟩
        have q2 := (g.block _ (lt_of_block q2)).trans q2
        have q3 := (g.block _ (lt_of_block q3)).trans q3
        have q4 := (g.block _ (lt_of_block q4)).trans q4
        have bel := chain bel g
        clear g d0 d1 d2 d3 d4 dz
        have q2 := (heap_alloc_old wg0 (.cells #[.string (str X.key), .int .i64 X.v.k, .int .i64 X.v.i, .string (str X.v.s), .int .i64 X.ver] 53 ) (lt_of_block q2)).trans q2
        have q3 := (heap_alloc_old wg0 (.cells #[.string (str X.key), .int .i64 X.v.k, .int .i64 X.v.i, .string (str X.v.s), .int .i64 X.ver] 53 ) (lt_of_block q3)).trans q3
        have q4 := (heap_alloc_old wg0 (.cells #[.string (str X.key), .int .i64 X.v.k, .int .i64 X.v.i, .string (str X.v.s), .int .i64 X.ver] 53 ) (lt_of_block q4)).trans q4
        have bel := bel.alloc bel.size (.cells #[.string (str X.key), .int .i64 X.v.k, .int .i64 X.v.i, .string (str X.v.s), .int .i64 X.ver] 53 )
        have c1 := (block_cell q2 b).trans HU.out
        unfold itV
        go_wp2_with fail
        obtain ⟨wg, hwg⟩ : ∃ wg, wg = wg0.alloc (.cells #[.string (str X.key), .int .i64 X.v.k, .int .i64 X.v.i, .string (str X.v.s), .int .i64 X.ver] 53 ) := ⟨_, rfl⟩
        rw [← hwg] at q2 q3 q4 bel ⊢
        clear hwg c1
        have HL := Lib.hid (lt_of_block q4)
        have WI := Lib.hid (fun W (g : Below wg.heap.size wg W) => WI.out W (HRU.out.below (chain bel g) (Nat.le_refl _)))
        refine t_start 9 (by kernel_rfl) ?_
        refine t_take (i := 0) (d := (some 38)) (v := ?_) rfl rfl (by kernel_rfl) (fun _ _ _ h => h) (by rfl) (fun w' hb' => ?_) ?_
        rotate_left
        · (try go_simp); (try with_reducible rfl)
        try simp only [Act.put, List.setIfInBounds_toArray, List.set_cons_zero, List.set_cons_succ]
        refine t_take (i := 1) (d := (some 39)) (v := ?_) rfl rfl (by kernel_rfl) (fun _ _ _ h => h) (by rfl) (fun w' hb' => ?_) ?_
        rotate_left
        · (try go_simp); (try with_reducible rfl)
        try simp only [Act.put, List.setIfInBounds_toArray, List.set_cons_zero, List.set_cons_succ]
        refine t_take (i := 2) (d := (some 40)) (v := ?_) rfl rfl (by kernel_rfl) (fun _ _ _ h => h) (by rfl) (fun w' hb' => ?_) ?_
        rotate_left
        · (try go_simp); (try with_reducible rfl)
        try simp only [Act.put, List.setIfInBounds_toArray, List.set_cons_zero, List.set_cons_succ]
        refine t_take (i := 3) (d := (some 41)) (v := ?_) rfl rfl (by kernel_rfl) (fun _ _ _ h => h) (by rfl) (fun w' hb' => ?_) ?_
        rotate_left
        · (try go_simp); (try with_reducible rfl)
        try simp only [Act.put, List.setIfInBounds_toArray, List.set_cons_zero, List.set_cons_succ]
        refine t_take (i := 4) (d := (some 42)) (v := ?_) rfl rfl (by kernel_rfl) (fun _ _ _ h => h) (by rfl) (fun w' hb' => ?_) ?_
        rotate_left
        · have zz := (hb'.cell (p := ⟨w.heap.size, b, none⟩) (lt_of_block q2)).trans ((block_cell q2 b).trans HU.out); (try go_simp); (try with_reducible rfl)
        try simp only [Act.put, List.setIfInBounds_toArray, List.set_cons_zero, List.set_cons_succ]
        refine t_take (i := 5) (d := (some 43)) (v := ?_) rfl rfl (by kernel_rfl) (fun _ _ _ h => h) (by rfl) (fun w' hb' => ?_) ?_
        rotate_left
        · obtain ⟨d0, d1, d2, d3, d4, dz⟩ := block_cells5 ((hb'.block _ (lt_of_block q3)).trans q3); (try go_simp); (try with_reducible rfl)
        try simp only [Act.put, List.setIfInBounds_toArray, List.set_cons_zero, List.set_cons_succ]
        refine t_take (i := 7) (d := (some 45)) (v := ?_) rfl rfl (by kernel_rfl) (fun _ _ _ h => h) (by rfl) (fun w' hb' => ?_) ?_
        rotate_left
        · (try go_simp); (try with_reducible rfl)
        try simp only [Act.put, List.setIfInBounds_toArray, List.set_cons_zero, List.set_cons_succ]
        refine t_run (i := 6) rfl (by kernel_rfl) (by kernel_rfl) (by rfl) (fun K hK => ?_)
        go_simp; refine (WI.out _ (Below.drew (Below.refl _ _))).mono ?_; rintro e w4 ⟨v1, rfl, own, gg⟩; have g1 := Below.trans (Below.drew (Below.refl wg.heap.size wg)) gg; have q2 := (g1.block _ (lt_of_block q2)).trans q2; have q3 := (g1.block _ (lt_of_block q3)).trans q3; have q4 := (g1.block _ (lt_of_block q4)).trans q4; have bel := chain bel g1; obtain ⟨a1, n1, c1, rfl⟩ := own_slice own; replace own : w4.ownsRow wg.heap.size 53 5 _ _ _ := own; refine hK _ _ ⟨gg, ?_⟩; clear hK K gg g1
        try simp only [Act.put, List.setIfInBounds_toArray, List.set_cons_zero, List.set_cons_succ]
        refine t_take (i := 8) (d := (some 46)) (v := ?_) rfl rfl (by kernel_rfl) (fun _ _ _ h => h) (by rfl) (fun w' hb' => ?_) ?_
        rotate_left
        · (try go_simp); (try with_reducible rfl)
        try simp only [Act.put, List.setIfInBounds_toArray, List.set_cons_zero, List.set_cons_succ]
        refine t_last (i := 9) rfl (by kernel_rfl) (by kernel_rfl) (by kernel_rfl) (by rfl) (fun K hK => ?_)
        have e1 := (block_cell q2 b).trans HU.out
        have f1 := block_frozen q2 b
        go_simp
        refine hK _ _ ?_
        clear hK K e1 f1
        have hbk' := HBK.out
        have q21 := set_at (i := b) (u := .slice a1 n1 c1) q2
        have e2 := (block_cell q21 (16 + b)).trans (Array.getElem?_setIfInBounds_ne (by omega) |>.trans HV.out)
        have f2 := block_frozen q21 (16 + b)
        have e3 := e2
        have f3 := f2
        rw [Nat.add_comm 16 b] at e3 f3
        have q31 : (w4.setCell ⟨w.heap.size, b, none⟩ (.slice a1 n1 c1)).heap[w.heap.size + 1]? = some (.cells #[.string (str x.key), .int .i64 x.v.k, .int .i64 x.v.i, .string (str x.v.s), .int .i64 x.ver] 53 (0, 0)) := by rw [set_old (by omega)]; exact q3
        obtain ⟨d0, d1, d2, d3, d4, dz⟩ := block_cells5 q31
        clear q21 q31
        have q2s := two_cells (i := b) (j := 16 + b) (u := .slice a1 n1 c1) (v := .int .i64 x.ver) q2
        obtain ⟨CS, hCS⟩ : ∃ CS, CS = (cs.setIfInBounds b (.slice a1 n1 c1)).setIfInBounds (16 + b) (.int .i64 x.ver) := ⟨_, rfl⟩
        rw [← hCS] at q2s
        have q4s : ((w4.setCell ⟨w.heap.size, b, none⟩ (.slice a1 n1 c1)).setCell ⟨w.heap.size, 16 + b, none⟩ (.int .i64 x.ver)).heap[w.heap.size + 2]? = some (.cells zT 26 (0, 0)) := by rw [set_old (by omega), set_old (by omega)]; exact q4
        have q9 := setRow_heap _ _ _ CS _ _ q4s
        have bel9 := below_row (g := w.heap.size + 2) ((bel.setCell (p := ⟨w.heap.size, b, none⟩) (Nat.le_refl _) (.slice a1 n1 c1)).setCell (p := ⟨w.heap.size, 16 + b, none⟩) (Nat.le_refl _) (.int .i64 x.ver)) (by omega) CS
        have own9 := own_moved (w' := (((w4.setCell ⟨w.heap.size, b, none⟩ (.slice a1 n1 c1)).setCell ⟨w.heap.size, 16 + b, none⟩ (.int .i64 x.ver)).setRow (w.heap.size + 2) CS)) own (fun g hg => by
          have := HL.out
          rw [setRow_other _ _ _ _ (by omega), set_old (by omega), set_old (by omega)])
        have RT := (HT.out.below bel9 (Nat.le_refl _)).put (b := b) hb16 (v := x.ver) (own_rdk itC_len own9)
        rw [← hCS] at RT
        have HC2 := infoTc RT.size
        have hcs2 : zT.size = CS.size := by rw [RT.size]; rfl
        have hone := RT.one
        have OWN9 := Lib.hid (own_base (b' := w.heap.size) own9 (by have := HL.out; omega))
        have BEL9 := Lib.hid bel9
        have Q9 := Lib.hid q9
        have HCS := Lib.hid hCS
        clear hCS q9 RT own own9 bel9
        go_wp2_with (first | (with_reducible refine wpList_load_row (o := ⟨some 52, _, _, _, _, _⟩) rfl 26 (.tmp 2) rfl _ rfl _ CS (0, 0) _ q2s Tryd.underlying26 rfl HC2 ?_) | (with_reducible refine wpList_store_row (o := ⟨none, _, _, _, _, _⟩) rfl 26 (.tmp 4) (.tmp 52) rfl _ CS rfl rfl _ zT q4s HC2 hcs2 hone ?_))
        refine bodyPost_ret (v := .tuple #[.agg CS, .int .i64 0]) (results_row_tmp rfl _ _ _ _ CS (0, 0) _ _ rfl rfl Q9.out Tryd.underlying26 rfl HC2) rfl ?_
        rw [HZ.out, hbk']; exact ⟨_, by rw [HCS.out], OWN9.out, BEL9.out⟩
set_option maxRecDepth 100000 in
set_option maxHeartbeats 2000000 in
theorem refDel10_any (cs : Array Value) (lv : Nat → List It) (vs : Nat → Int) (k : List UInt8) (ver : Int) (w : World) (tab : TabAt w) (h : RdT w cs lv vs) (hsz : SzT lv) (hm : mayTs lv vs 16 = true) (hver : verB ver = true) (hk : k.length ≤ maxLen) :
    Calls Tryd.prog 77 #[.agg cs, .string (str k), .int .i64 ver] w (DelP w cs lv vs k ver) := by
  have hs := infoTc h.size
  have HT := Lib.hid h
  have z0 := zeroT_run
  have z1 := zT_ne
  obtain ⟨q3, q6, -, -⟩ := two_allocs w (.cells cs 26) (.cells zT 26)
  have bel : Below w.heap.size w ((w.alloc (.cells cs 26)).alloc (.cells zT 26)) := ((Below.refl _ w).alloc (Nat.le_refl _) _).alloc (by simp) _
  obtain ⟨Z, hZ⟩ : ∃ Z, Z = DelP w cs lv vs k ver := ⟨_, rfl⟩
  rw [← hZ]
  unfold DelP at hZ
  rw [delTE_of hm hver] at hZ
  have hb16 := bkN_lt k
  have l64 := isL_len (isT hm hb16)
  have GT0 := fun W (g : Below w.heap.size w W) => refGet10_any cs lv vs k W (h.below g (Nat.le_refl _)) hm
  obtain ⟨X, hX⟩ : ∃ X, X = gTI lv k := ⟨_, rfl⟩
  obtain ⟨Y, hY⟩ : ∃ Y, Y = gTB lv k := ⟨_, rfl⟩
  rw [← hX, ← hY] at GT0
  rw [← hY] at hZ
  have GT := Lib.hid GT0
  have HSB := Lib.hid (hsz _ hb16)
  have HYK := Lib.hid (show Y = true → isB k = true from fun e => by
    rw [hY] at e; unfold gTB at e; simp only [Bool.and_eq_true] at e; exact e.1)
  have HK := Lib.hid hk
  clear GT0 hX hY hver
  cases Y with
  | false =>
    rw [if_pos rfl, if_neg (by decide)] at hZ
    have HZ := Lib.hid hZ
    clear hZ hm h hsz hb16 l64 HYK
    go_enter Tryd.func77, Tryd.ntmps77
    go_wp2_with (with_reducible refine wpList_load_row (o := ⟨some 12, _, _, _, _, _⟩) rfl 26 (.tmp 3) rfl _ rfl _ cs (0, 0) _ q3 Tryd.underlying26 rfl hs ?_)
    refine (GT.out _ bel).mono ?_
    rintro e wg ⟨rfl, g⟩
    have q6 := (g.block _ (lt_of_block q6)).trans q6
    have bel := chain bel g
    have q6 := (heap_alloc_old wg (.cells #[.string (str X.key), .int .i64 X.v.k, .int .i64 X.v.i, .string (str X.v.s), .int .i64 X.ver] 53 ) (lt_of_block q6)).trans q6
    have bel := bel.alloc bel.size (.cells #[.string (str X.key), .int .i64 X.v.k, .int .i64 X.v.i, .string (str X.v.s), .int .i64 X.ver] 53 )
    clear g
    unfold itV
    go_wp2_with (with_reducible refine wpList_store_row (o := ⟨none, _, _, _, _, _⟩) rfl 26 (.tmp 6) (.tmp 19) rfl _ zT rfl rfl _ zT q6 (infoTc zT_size) rfl zT_one ?_)
    rw [setRow_self _ _ _ _ _ q6]
    go_wp2_with fail
    refine bodyPost_ret (v := .tuple #[.agg zT, .int .i64 6]) (results_row_tmp rfl _ _ _ _ zT (0, 0) _ _ rfl rfl q6 Tryd.underlying26 rfl (infoTc zT_size)) rfl ?_
    rw [HZ.out]; exact ⟨rfl, bel⟩
  | true =>
    simp only [Bool.true_eq_false, if_false] at hZ
    have BK := Lib.hid (refBucket_any k HK.out (isB_len (HYK.out rfl)))
    obtain ⟨b, hbk⟩ : ∃ b, b = bkN k := ⟨_, rfl⟩
    rw [← hbk] at BK hb16 l64 HSB hZ
    have hb16i : (b : Int) < 16 := by omega
    obtain ⟨u0, hu0, hru0⟩ := h.leaf b hb16
    have HU := Lib.hid hu0
    have HV := Lib.hid (h.ver b hb16)
    have WI0 := fun W (h : RdI W u0 (lv b)) => refWithout_any u0 (lv b) k W h (by omega)
    have HRU := Lib.hid hru0
    clear hru0 h hsz hm hbk
    obtain ⟨V, hV⟩ : ∃ V, V = vs b := ⟨_, rfl⟩
    rw [← hV] at HV hZ
    clear hV
    by_cases hv : ver < V
    · rw [if_pos hv, if_neg (by decide)] at hZ
      have HZ := Lib.hid hZ
      have hvb : decide (ver < V) = true := by simpa using hv
      clear hZ hv WI0
      go_enter Tryd.func77, Tryd.ntmps77
      go_wp2_with (with_reducible refine wpList_load_row (o := ⟨some 12, _, _, _, _, _⟩) rfl 26 (.tmp 3) rfl _ rfl _ cs (0, 0) _ q3 Tryd.underlying26 rfl hs ?_)
      refine (GT.out _ bel).mono ?_
      rintro e wg ⟨rfl, g⟩
      have q3 := (g.block _ (lt_of_block q3)).trans q3
      have q6 := (g.block _ (lt_of_block q6)).trans q6
      have bel := chain bel g
      have q3 := (heap_alloc_old wg (.cells #[.string (str X.key), .int .i64 X.v.k, .int .i64 X.v.i, .string (str X.v.s), .int .i64 X.ver] 53 ) (lt_of_block q3)).trans q3
      have q6 := (heap_alloc_old wg (.cells #[.string (str X.key), .int .i64 X.v.k, .int .i64 X.v.i, .string (str X.v.s), .int .i64 X.ver] 53 ) (lt_of_block q6)).trans q6
      have bel := bel.alloc bel.size (.cells #[.string (str X.key), .int .i64 X.v.k, .int .i64 X.v.i, .string (str X.v.s), .int .i64 X.ver] 53 )
      clear g
      unfold itV
      go_wp2_with fail
      refine (BK.out _).mono ?_
      rintro e w1 ⟨rfl, rfl⟩
      have e2 := (block_cell q3 (16 + b)).trans HV.out
      have e3 := e2
      rw [Nat.add_comm 16 b] at e3
      go_wp2_with (with_reducible refine wpList_store_row (o := ⟨none, _, _, _, _, _⟩) rfl 26 (.tmp 6) (.tmp 28) rfl _ zT rfl rfl _ zT q6 (infoTc zT_size) rfl zT_one ?_)
      rw [setRow_self _ _ _ _ _ q6]
      go_wp2_with fail
      refine bodyPost_ret (v := .tuple #[.agg zT, .int .i64 18]) (results_row_tmp rfl _ _ _ _ zT (0, 0) _ _ rfl rfl q6 Tryd.underlying26 rfl (infoTc zT_size)) rfl ?_
      rw [HZ.out]; exact ⟨rfl, bel⟩
    · rw [if_neg hv, if_pos rfl] at hZ
      have HZ := Lib.hid hZ
      have hvb : decide (ver < V) = false := by simpa using hv
      have WI := Lib.hid WI0
      clear hZ hv WI0
      go_enter Tryd.func77, Tryd.ntmps77
      go_wp2_with (with_reducible refine wpList_load_row (o := ⟨some 12, _, _, _, _, _⟩) rfl 26 (.tmp 3) rfl _ rfl _ cs (0, 0) _ q3 Tryd.underlying26 rfl hs ?_)
      refine (GT.out _ bel).mono ?_
      rintro e wg0 ⟨rfl, g⟩
      have q3 := (g.block _ (lt_of_block q3)).trans q3
      have q6 := (g.block _ (lt_of_block q6)).trans q6
      have bel := chain bel g
      have q3 := (heap_alloc_old wg0 (.cells #[.string (str X.key), .int .i64 X.v.k, .int .i64 X.v.i, .string (str X.v.s), .int .i64 X.ver] 53 ) (lt_of_block q3)).trans q3
      have q6 := (heap_alloc_old wg0 (.cells #[.string (str X.key), .int .i64 X.v.k, .int .i64 X.v.i, .string (str X.v.s), .int .i64 X.ver] 53 ) (lt_of_block q6)).trans q6
      have bel := bel.alloc bel.size (.cells #[.string (str X.key), .int .i64 X.v.k, .int .i64 X.v.i, .string (str X.v.s), .int .i64 X.ver] 53 )
      clear g
      unfold itV
      go_wp2_with fail
      obtain ⟨wg, hwg⟩ : ∃ wg, wg = wg0.alloc (.cells #[.string (str X.key), .int .i64 X.v.k, .int .i64 X.v.i, .string (str X.v.s), .int .i64 X.ver] 53 ) := ⟨_, rfl⟩
      rw [← hwg] at q3 q6 bel ⊢
      clear hwg
      refine (BK.out _).mono ?_
      rintro e w1 ⟨rfl, rfl⟩
      have HL := Lib.hid (lt_of_block q6)
      have e2 := (block_cell q3 (16 + b)).trans HV.out
      have e3 := e2
      rw [Nat.add_comm 16 b] at e3
      have e1 := (block_cell q3 b).trans HU.out
      go_wp2_with fail
      refine (WI.out _ (HRU.out.below bel (Nat.le_refl _))).mono ?_
      rintro e w4 ⟨v1, rfl, own, g⟩
      obtain ⟨a1, n1, c1, rfl⟩ := own_slice own
      have q3 := (g.block _ (lt_of_block q3)).trans q3
      have q6 := (g.block _ (lt_of_block q6)).trans q6
      have bel := chain bel g
      clear e1 e2 e3 g
      have e1 := (block_cell q3 b).trans HU.out
      have f1 := block_frozen q3 b
      have q21 := set_at (i := b) (u := .slice a1 n1 c1) q3
      have e2 := (block_cell q21 (16 + b)).trans (Array.getElem?_setIfInBounds_ne (by omega) |>.trans HV.out)
      have f2 := block_frozen q21 (16 + b)
      have e3 := e2
      have f3 := f2
      rw [Nat.add_comm 16 b] at e3 f3
      clear q21
      have q2 := q3
      have q2s := two_cells (i := b) (j := 16 + b) (u := .slice a1 n1 c1) (v := .int .i64 ver) q2
      obtain ⟨CS, hCS⟩ : ∃ CS, CS = (cs.setIfInBounds b (.slice a1 n1 c1)).setIfInBounds (16 + b) (.int .i64 ver) := ⟨_, rfl⟩
      rw [← hCS] at q2s
      have q4s : ((w4.setCell ⟨w.heap.size, b, none⟩ (.slice a1 n1 c1)).setCell ⟨w.heap.size, 16 + b, none⟩ (.int .i64 ver)).heap[w.heap.size + 1]? = some (.cells zT 26 (0, 0)) := by rw [set_old (by omega), set_old (by omega)]; exact q6
      have q9 := setRow_heap _ _ _ CS _ _ q4s
      have bel9 := below_row (g := w.heap.size + 1) ((bel.setCell (p := ⟨w.heap.size, b, none⟩) (Nat.le_refl _) (.slice a1 n1 c1)).setCell (p := ⟨w.heap.size, 16 + b, none⟩) (Nat.le_refl _) (.int .i64 ver)) (by omega) CS
      have own9 := own_moved (w' := (((w4.setCell ⟨w.heap.size, b, none⟩ (.slice a1 n1 c1)).setCell ⟨w.heap.size, 16 + b, none⟩ (.int .i64 ver)).setRow (w.heap.size + 1) CS)) own (fun g hg => by
        have := HL.out
        rw [setRow_other _ _ _ _ (by omega), set_old (by omega), set_old (by omega)])
      have RT := (HT.out.below bel9 (Nat.le_refl _)).put (b := b) hb16 (v := ver) (own_rdk itC_len own9)
      rw [← hCS] at RT
      have HC2 := infoTc RT.size
      have hcs2 : zT.size = CS.size := by rw [RT.size]; rfl
      have hone := RT.one
      have OWN9 := Lib.hid (own_base (b' := w.heap.size) own9 (by have := HL.out; omega))
      have BEL9 := Lib.hid bel9
      have Q9 := Lib.hid q9
      have HCS := Lib.hid hCS
      clear hCS q9 RT own own9 bel9
      go_wp2_with (first | (with_reducible refine wpList_load_row (o := ⟨some 42, _, _, _, _, _⟩) rfl 26 (.tmp 3) rfl _ rfl _ CS (0, 0) _ q2s Tryd.underlying26 rfl HC2 ?_) | (with_reducible refine wpList_store_row (o := ⟨none, _, _, _, _, _⟩) rfl 26 (.tmp 6) (.tmp 42) rfl _ CS rfl rfl _ zT q4s HC2 hcs2 hone ?_))
      refine bodyPost_ret (v := .tuple #[.agg CS, .int .i64 0]) (results_row_tmp rfl _ _ _ _ CS (0, 0) _ _ rfl rfl Q9.out Tryd.underlying26 rfl HC2) rfl ?_
      rw [HZ.out]; exact ⟨_, by rw [HCS.out], OWN9.out, BEL9.out⟩
end Go.Proofs.YtbdfcgffkonbiaaDoor
