/- Stores: what the laws look at. Written by wip/tools/gen13la.py. -/
import Derived.Test.YtbdfcgffkonbiaaDoorQST44
namespace Go.Proofs.YtbdfcgffkonbiaaDoor
open Go Go.RowKit
set_option linter.unusedVariables false
set_option linter.unusedSimpArgs false
theorem none13_any (cs : Array Value) (s : St) (w : World) (h : RdS w cs s) (h100 : ∀ b, b < 16 → (s.lv b).length ≤ 100) :
    Calls Tryd.prog 15 #[.agg cs] w fun e w' => e = .returned (.bool (sameS s stQ)) ∧ Below w.heap.size w w' := by
  have q1 := heap_alloc_new w (.cells cs 28)
  have b1 := (Below.refl w.heap.size w).alloc (Nat.le_refl _) (.cells cs 28)
  have SM := Lib.hid (fun W (g : Below w.heap.size w W) => same13_any cs zS s stQ W (h.below g (Nat.le_refl _)) (rds_zero W) h100 (fun _ _ => by simp [stQ]))
  have HBZ := Lib.hid hb_zero
  have hi := infoS h.size
  clear h h100
  go_enter Tryd.func15, Tryd.ntmps15
  go_wp2_with (first | ((with_reducible refine wpList_load_row (o := ⟨some 3, _, _, _, _, _⟩) rfl 28 (.tmp 1) rfl _ rfl _ cs (0, 0) _ q1 Tryd.underlying28 rfl hi ?_)) | ((with_reducible refine wpList_buildV (o := ⟨some 4, _, _, _, _, _⟩) rfl 28 #[] rfl #[] rfl (.agg zS) (HBZ.out _) ?_)))
  refine (SM.out _ b1).mono ?_
  rintro e w2 ⟨rfl, g⟩
  have bel := chain b1 g
  go_wp2_with fail
  go_ret
  exact ⟨rfl, bel⟩
theorem short13_any (s : List UInt8) (w : World) (hs : s.length ≤ maxLen) :
    Calls Tryd.prog 24 #[.string (str s)] w fun e w' => e = .returned (.string (str (s.take 60))) ∧ w = w' := by
  unfold maxLen at hs
  have h1 : (str s).size = s.length := str_size s
  by_cases h : 60 < s.length
  · have hx : (str s).extract 0 60 = str (s.take 60) := by rw [k8str_extract]; simp
    go_enter Tryd.func24, Tryd.ntmps24
    go_wp2_with fail
    go_ret
    exact ⟨ret_str rfl, rfl⟩
  · rw [List.take_of_length_le (by omega)]
    go_enter Tryd.func24, Tryd.ntmps24
    go_wp2_with fail
    go_ret
    exact ⟨rfl, rfl⟩
def oneE (x : Ed) : Ed := ⟨x.key.take 60, ⟨x.v.k, x.v.i, x.v.s.take 200⟩⟩
def fewE (l : List Ed) : List Ed := (l.take 90).map oneE
theorem take_mapE {f : Ed → Ed} {l : List Ed} {j : Nat} (h : j < l.length) : (l.take j).map f ++ [f l[j]] = (l.take (j + 1)).map f := by
  rw [List.take_add_one, List.getElem?_eq_getElem h, List.map_append]; rfl
theorem fewE_len (l : List Ed) : (fewE l).length ≤ 90 := by unfold fewE; rw [List.length_map]; exact List.length_take_le _ _
theorem fewE_sz (l : List Ed) : SzE (fewE l) := by
  intro x hx
  obtain ⟨y, -, rfl⟩ := List.mem_map.1 hx
  exact ⟨Nat.le_trans (List.length_take_le _ _) (by decide), Nat.le_trans (List.length_take_le _ _) (by decide)⟩
theorem fewE_wf {l : List Ed} (h : WfE l) : WfE (fewE l) := by
  intro x hx
  obtain ⟨y, hy, rfl⟩ := List.mem_map.1 hx
  exact h y (List.mem_of_mem_take hy)
set_option maxRecDepth 100000 in
set_option maxHeartbeats 2000000 in
theorem edits13_any (v : Value) (l : List Ed) (w : World) (h : RdE w v l) (hsz : SzE l) :
    Calls Tryd.prog 33 #[v] w fun e w' => ∃ u, e = .returned u ∧ w'.ownsRow w.heap.size 68 4 u (fewE l).length ((fewE l).flatMap edC) ∧ Below w.heap.size w w' := by
  obtain ⟨i0, hi, hz0, hz1, hz2⟩ := info_parts edit_info
  obtain ⟨ao, cap, rfl, hc, hm, hr⟩ := RdK.open h
  have hr : RdE w (.slice ao l.length cap) l := hr
  have HS := Lib.hid hsz
  clear h hsz
  obtain ⟨R, hR⟩ : ∃ R, R = fewE l := ⟨_, rfl⟩
  rw [← hR]
  have HR := Lib.hid hR
  clear hR
  by_cases hbig : 90 < l.length
  · skip
    obtain ⟨l', hl'⟩ : ∃ l', l' = l.take 90 := ⟨_, rfl⟩
    have hln : l'.length = 90 := by rw [hl']; simp; omega
    have hr' : RdE w (.slice ao 90 cap) l' := by rw [hl']; exact RdK.short edC_len hr 90 (by omega)
    have HS := Lib.hid (show SzE l' by rw [hl']; exact fun x hx => HS.out x (List.mem_of_mem_take hx))
    have HRD := Lib.hid hr'
    have HLN := Lib.hid hln
    have HL := Lib.hid hl'
    have hd1 : decide (90 < (l.length : Int)) = true := decide_eq_true (by omega)
    have hd2 : decide (90 < l.length) = true := decide_eq_true hbig
    clear hr hr' hl' hln
    go_enter Tryd.func33, Tryd.ntmps33
    go_wp2_with fail
    go_loopw [3, 4] (fun out i wr => ∃ (j : Nat) (acc : List Ed), j ≤ 90 ∧ i = .int .i64 (j : Int) ∧ acc.length ≤ j ∧ Hid (acc = (l'.take j).map oneE) ∧ wr.ownsRow w.heap.size 68 4 out acc.length (acc.flatMap edC) ∧ Below w.heap.size w wr) (fun _ i _ => 100 - (intOf i).toNat)
    case atStart => exact ⟨0, [], Nat.zero_le _, rfl, Nat.le_refl _, rfl, World.ownsRow_nil _ _ _ _, Below.refl _ _⟩
    case round =>
      obtain ⟨j, acc, hj, rfl, hacc, HA, hown, bel⟩ := hrel
      by_cases hjn : j < 90
      · have hlt : j < l'.length := by have := HLN.out; omega
        have R1 : RdE wr (.slice ao 90 cap) l' := RdK.below HRD.out bel (Nat.le_refl _)
        obtain ⟨b, off, rfl, hb, hca⟩ := RdK.cell edC_len R1 j hlt
        obtain ⟨x, hx⟩ : ∃ x, x = l'[j]'hlt := ⟨_, rfl⟩
        rw [← hx] at hca
        obtain ⟨c0, c1, c2, c3⟩ := ed_cells (o := off + j * 4) (fun i hi => by rw [Nat.add_assoc]; exact hca i hi)
        have hxk : x.key.length ≤ maxLen := by rw [hx]; exact (HS.out _ (List.getElem_mem _)).1
        have hxs : x.v.s.length ≤ maxLen := by rw [hx]; exact (HS.out _ (List.getElem_mem _)).2
        have ONE0 := fun W => one10_any ⟨x.key, x.v, 0⟩ W hxk hxs
        obtain ⟨y, hy⟩ : ∃ y, y = oneI ⟨x.key, x.v, 0⟩ := ⟨_, rfl⟩
        have hye : oneE x = ⟨y.key, y.v⟩ := by rw [hy]; rfl
        rw [← hy] at ONE0
        unfold itV at ONE0
        have ONE := Lib.hid ONE0
        have HN := Lib.hid (show acc ++ [⟨y.key, y.v⟩] = (l'.take (j + 1)).map oneE by rw [← hye, HA.out, hx]; exact take_mapE hlt)
        clear hx hca R1 ONE0 hy hye hxk hxs
        go_wp2_with fail
        refine region_puts_of (fun B9 : Nat => [(some 17, .slice (some ⟨b, off, none⟩) 90 cap), (some 18, .int .i64 (j : Int)), (some 19, .pointer (some ⟨b, off + j * 4, none⟩)), (some 20, .pointer (some ⟨b, off + j * 4, none⟩)), (some 21, .string (str x.key)), (some 22, .slice (some ⟨b, off, none⟩) 90 cap), (some 23, .int .i64 (j : Int)), (some 24, .pointer (some ⟨b, off + j * 4, none⟩)), (some 25, .pointer (some ⟨b, off + j * 4 + 1, none⟩)), (some 26, .agg #[.int .i64 x.v.k, .int .i64 x.v.i, .string (str x.v.s)]), (some 27, .agg #[.string (str x.key), .int .i64 x.v.k, .int .i64 x.v.i, .string (str x.v.s), .int .i64 0]), (some 28, .agg #[.string (str y.key), .int .i64 y.v.k, .int .i64 y.v.i, .string (str y.v.s), .int .i64 y.ver]), (some 5, .pointer (some ⟨B9, 0, none⟩))]) (fun B9 z => z.heap[B9]? = some (.cells #[.string (str y.key), .int .i64 y.v.k, .int .i64 y.v.i, .string (str y.v.s), .int .i64 y.ver] 53 (0, 0)) ∧ Below wr.heap.size wr z ∧ wr.heap.size ≤ B9) ?_ ?_
        · have hS : Below wr.heap.size wr wr.drew := (Below.refl _ _).drew
          refine gs_start (S := (fun W => Below wr.heap.size wr W)) (by kernel_rfl) ?_
          refine gs_take (i := 0) (d := (some 17)) (v := ?_) rfl rfl (by kernel_rfl) (fun _ _ _ h => nomatch h.1) (by rfl) hS (fun w' hb' => ?_) ?_
          rotate_left
          · (try go_simp); (try with_reducible rfl)
          try simp only [Act.put, List.setIfInBounds_toArray, List.set_cons_zero, List.set_cons_succ]
          refine gs_take (i := 1) (d := (some 18)) (v := ?_) rfl rfl (by kernel_rfl) (fun _ _ _ h => nomatch h.1) (by rfl) hS (fun w' hb' => ?_) ?_
          rotate_left
          · (try go_simp); (try with_reducible rfl)
          try simp only [Act.put, List.setIfInBounds_toArray, List.set_cons_zero, List.set_cons_succ]
          refine gs_take (i := 2) (d := (some 19)) (v := ?_) rfl rfl (by kernel_rfl) (fun _ _ _ h => nomatch h.1) (by rfl) hS (fun w' hb' => ?_) ?_
          rotate_left
          · (try go_simp); (try with_reducible rfl)
          try simp only [Act.put, List.setIfInBounds_toArray, List.set_cons_zero, List.set_cons_succ]
          refine gs_take (i := 3) (d := (some 20)) (v := ?_) rfl rfl (by kernel_rfl) (fun _ _ _ h => nomatch h.1) (by rfl) hS (fun w' hb' => ?_) ?_
          rotate_left
          · (try go_simp); (try with_reducible rfl)
          try simp only [Act.put, List.setIfInBounds_toArray, List.set_cons_zero, List.set_cons_succ]
          refine gs_take (i := 4) (d := (some 21)) (v := ?_) rfl rfl (by kernel_rfl) (fun _ _ _ h => nomatch h.1) (by rfl) hS (fun w' hb' => ?_) ?_
          rotate_left
          · have zz := (hb'.cell (p := ⟨b, off + j * 4, none⟩) hb).trans c0; (try go_simp); (try with_reducible rfl)
          try simp only [Act.put, List.setIfInBounds_toArray, List.set_cons_zero, List.set_cons_succ]
          refine gs_take (i := 5) (d := (some 22)) (v := ?_) rfl rfl (by kernel_rfl) (fun _ _ _ h => nomatch h.1) (by rfl) hS (fun w' hb' => ?_) ?_
          rotate_left
          · (try go_simp); (try with_reducible rfl)
          try simp only [Act.put, List.setIfInBounds_toArray, List.set_cons_zero, List.set_cons_succ]
          refine gs_take (i := 6) (d := (some 23)) (v := ?_) rfl rfl (by kernel_rfl) (fun _ _ _ h => nomatch h.1) (by rfl) hS (fun w' hb' => ?_) ?_
          rotate_left
          · (try go_simp); (try with_reducible rfl)
          try simp only [Act.put, List.setIfInBounds_toArray, List.set_cons_zero, List.set_cons_succ]
          refine gs_take (i := 7) (d := (some 24)) (v := ?_) rfl rfl (by kernel_rfl) (fun _ _ _ h => nomatch h.1) (by rfl) hS (fun w' hb' => ?_) ?_
          rotate_left
          · (try go_simp); (try with_reducible rfl)
          try simp only [Act.put, List.setIfInBounds_toArray, List.set_cons_zero, List.set_cons_succ]
          refine gs_take (i := 8) (d := (some 25)) (v := ?_) rfl rfl (by kernel_rfl) (fun _ _ _ h => nomatch h.1) (by rfl) hS (fun w' hb' => ?_) ?_
          rotate_left
          · (try go_simp); (try with_reducible rfl)
          try simp only [Act.put, List.setIfInBounds_toArray, List.set_cons_zero, List.set_cons_succ]
          refine gs_take (i := 9) (d := (some 26)) (v := ?_) rfl rfl (by kernel_rfl) (fun _ _ _ h => nomatch h.1) (by rfl) hS (fun w' hb' => ?_) ?_
          rotate_left
          · have z1 := (hb'.cell (p := ⟨b, off + j * 4 + 1, none⟩) hb).trans c1; have z2 := (hb'.cell (p := ⟨b, off + j * 4 + 2, none⟩) hb).trans c2; have z3 := (hb'.cell (p := ⟨b, off + j * 4 + 3, none⟩) hb).trans c3; (try go_simp); (try with_reducible rfl)
          try simp only [Act.put, List.setIfInBounds_toArray, List.set_cons_zero, List.set_cons_succ]
          refine gs_take (i := 10) (d := (some 27)) (v := ?_) rfl rfl (by kernel_rfl) (fun _ _ _ h => nomatch h.1) (by rfl) hS (fun w' hb' => ?_) ?_
          rotate_left
          · (try go_simp); (try with_reducible rfl)
          try simp only [Act.put, List.setIfInBounds_toArray, List.set_cons_zero, List.set_cons_succ]
          refine gs_run2 (i := 11) (k := 12) rfl rfl (by kernel_rfl) (by rfl) (by rfl) (fun K hK => ?_) (fun K hK => ?_)
          · skip
            go_simp
            refine (ONE.out _).mono ?_
            rintro e wc ⟨rfl, g⟩
            have hS2 := hS.trans (g.mono hS.size)
            have hcs := hS2.size
            have hG := hS2
            refine hK _ _ ⟨hS2, ?_⟩
            clear hK K g hS
            have hS := hS2
            clear hS2
            try simp only [Act.put, List.setIfInBounds_toArray, List.set_cons_zero, List.set_cons_succ]
            refine gs_run (i := 12) rfl (by kernel_rfl) (by rfl) (fun K hK => ?_)
            go_simp
            have hS2 := hS.alloc hS.size (.cells #[.string (str []), .int .i64 0, .int .i64 0, .string (str []), .int .i64 0] 53)
            have qz := heap_alloc_new wc (.cells #[.string (str []), .int .i64 0, .int .i64 0, .string (str []), .int .i64 0] 53)
            refine hK _ _ ⟨hS2, ?_⟩
            clear hK K hS
            have hS := hS2
            clear hS2
            try simp only [Act.put, List.setIfInBounds_toArray, List.set_cons_zero, List.set_cons_succ]
            refine gs_run (i := 13) rfl (by kernel_rfl) (by rfl) (fun K hK => ?_)
            go_simp
            refine hK _ _ (and_keep (hG.alloc hG.size _) fun hS2 => ?_)
            clear hK K hS
            have hS := hS2
            clear hS2
            try simp only [Act.put, List.setIfInBounds_toArray, List.set_cons_zero, List.set_cons_succ]
            refine gs_done (by kernel_rfl) ?_
            refine ⟨rfl, wc.heap.size, ?_, ?_, hS, hcs⟩
            · simp only [List.foldl_cons, List.foldl_nil, Act.put, List.setIfInBounds_toArray, List.set_cons_zero, List.set_cons_succ]
            · first | exact heap_alloc_new wc (.cells #[.string (str y.key), .int .i64 y.v.k, .int .i64 y.v.i, .string (str y.v.s), .int .i64 y.ver] 53) | (simp only [drew_heapE]; exact heap_alloc_new wc (.cells #[.string (str y.key), .int .i64 y.v.k, .int .i64 y.v.i, .string (str y.v.s), .int .i64 y.ver] 53))
          · skip
            go_simp
            have hS2 := hS.alloc hS.size (.cells #[.string (str []), .int .i64 0, .int .i64 0, .string (str []), .int .i64 0] 53)
            have qz := heap_alloc_new wr (.cells #[.string (str []), .int .i64 0, .int .i64 0, .string (str []), .int .i64 0] 53)
            refine hK _ _ ⟨hS2, ?_⟩
            clear hK K hS
            have hS := hS2
            clear hS2
            try simp only [Act.put, List.setIfInBounds_toArray, List.set_cons_zero, List.set_cons_succ]
            refine gs_run (i := 11) rfl (by kernel_rfl) (by rfl) (fun K hK => ?_)
            go_simp
            refine (ONE.out _).mono ?_
            rintro e wc ⟨rfl, g⟩
            have qz := (g.block _ (lt_of_block qz)).trans qz
            have hS2 := hS.trans (g.mono hS.size)
            have hcs := hS2.size
            have hG := hS2
            refine hK _ _ ⟨hS2, ?_⟩
            clear hK K g hS
            have hS := hS2
            clear hS2
            try simp only [Act.put, List.setIfInBounds_toArray, List.set_cons_zero, List.set_cons_succ]
            refine gs_run (i := 13) rfl (by kernel_rfl) (by rfl) (fun K hK => ?_)
            have z0 := block_cell qz 0
            have z1 := block_cell qz 1
            have z2 := block_cell qz 2
            have z3 := block_cell qz 3
            have z4 := block_cell qz 4
            have zf := fun i => block_frozen qz i
            go_simp
            refine hK _ _ (and_keep (((((hS.setCell (p := ⟨wr.heap.size, 0, none⟩) (Nat.le_refl _) (.string (str y.key))).setCell (p := ⟨wr.heap.size, 1, none⟩) (Nat.le_refl _) (.int .i64 y.v.k)).setCell (p := ⟨wr.heap.size, 2, none⟩) (Nat.le_refl _) (.int .i64 y.v.i)).setCell (p := ⟨wr.heap.size, 3, none⟩) (Nat.le_refl _) (.string (str y.v.s))).setCell (p := ⟨wr.heap.size, 4, none⟩) (Nat.le_refl _) (.int .i64 y.ver)) fun hS2 => ?_)
            clear hK K hS z0 z1 z2 z3 z4 zf
            have hS := hS2
            clear hS2
            try simp only [Act.put, List.setIfInBounds_toArray, List.set_cons_zero, List.set_cons_succ]
            refine gs_done (by kernel_rfl) ?_
            refine ⟨rfl, wr.heap.size, ?_, ?_, hS, Nat.le_refl _⟩
            · simp only [List.foldl_cons, List.foldl_nil, Act.put, List.setIfInBounds_toArray, List.set_cons_zero, List.set_cons_succ]
            · first | exact (set_at (i := 4) (u := .int .i64 y.ver) (set_at (i := 3) (u := .string (str y.v.s)) (set_at (i := 2) (u := .int .i64 y.v.i) (set_at (i := 1) (u := .int .i64 y.v.k) (set_at (i := 0) (u := .string (str y.key)) qz))))) | (simp only [drew_heapE]; exact (set_at (i := 4) (u := .int .i64 y.ver) (set_at (i := 3) (u := .string (str y.v.s)) (set_at (i := 2) (u := .int .i64 y.v.i) (set_at (i := 1) (u := .int .i64 y.v.k) (set_at (i := 0) (u := .string (str y.key)) qz))))))
        rintro B9 w2 ⟨q9, g2, l9⟩
        simp only [List.foldl_cons, List.foldl_nil, Act.put, List.setIfInBounds_toArray, List.set_cons_zero, List.set_cons_succ]
        have bel2 := chain bel g2
        have hown' := own_keep hown g2
        have hQ9 := block_cell q9
        have u0 := hQ9 0
        have u1 := hQ9 1
        have u2 := hQ9 2
        have u3 := hQ9 3
        clear g2 hown hQ9 q9
        go_wp2_with (at_builtin; refine wpList_app1k edC_len (by decide) w rfl (.tmp 29) (.tmp 35) 57 rfl w.heap.size 68 i0 (.agg #[.string ⟨#[]⟩, .int .i64 0, .int .i64 0, .string ⟨#[]⟩]) 48 Tryd.underlying57 hi hz0 hz1 hz2 rfl _ _ rfl hown' _ (⟨y.key, y.v⟩ : Ed) _ rfl rfl edC_one (by unfold maxLen; omega) (by omega) (Nat.le_refl _) bel2 ?_; intro v' w1 hown2 hb2 hq2; clear hq2)
        exact ⟨⟨j + 1, acc ++ [⟨y.key, y.v⟩], by omega, by push_cast; rfl, by simp; omega, HN, hown2, hb2⟩, by simp [intOf]; omega⟩
      · obtain rfl : j = 90 := by omega
        have E := Lib.hid (show R = acc by rw [HA.out, HR.out]; unfold fewE; rw [HL.out, List.take_take]; rfl)
        go_wp2_with fail
        go_ret
        have e := E.out
        subst e
        exact ⟨_, rfl, hown, bel⟩
  · skip
    have HRD := Lib.hid hr
    have HLN := Lib.hid (rfl : l.length = l.length)
    have hd1 : decide (90 < (l.length : Int)) = false := decide_eq_false (by omega)
    have hd2 : decide (90 < l.length) = false := decide_eq_false hbig
    clear hr
    go_enter Tryd.func33, Tryd.ntmps33
    go_wp2_with fail
    go_loopw [3, 4] (fun out i wr => ∃ (j : Nat) (acc : List Ed), j ≤ l.length ∧ i = .int .i64 (j : Int) ∧ acc.length ≤ j ∧ Hid (acc = (l.take j).map oneE) ∧ wr.ownsRow w.heap.size 68 4 out acc.length (acc.flatMap edC) ∧ Below w.heap.size w wr) (fun _ i _ => 100 - (intOf i).toNat)
    case atStart => exact ⟨0, [], Nat.zero_le _, rfl, Nat.le_refl _, rfl, World.ownsRow_nil _ _ _ _, Below.refl _ _⟩
    case round =>
      obtain ⟨j, acc, hj, rfl, hacc, HA, hown, bel⟩ := hrel
      by_cases hjn : j < l.length
      · have hlt : j < l.length := by have := HLN.out; omega
        have R1 : RdE wr (.slice ao l.length cap) l := RdK.below HRD.out bel (Nat.le_refl _)
        obtain ⟨b, off, rfl, hb, hca⟩ := RdK.cell edC_len R1 j hlt
        obtain ⟨x, hx⟩ : ∃ x, x = l[j]'hlt := ⟨_, rfl⟩
        rw [← hx] at hca
        obtain ⟨c0, c1, c2, c3⟩ := ed_cells (o := off + j * 4) (fun i hi => by rw [Nat.add_assoc]; exact hca i hi)
        have hxk : x.key.length ≤ maxLen := by rw [hx]; exact (HS.out _ (List.getElem_mem _)).1
        have hxs : x.v.s.length ≤ maxLen := by rw [hx]; exact (HS.out _ (List.getElem_mem _)).2
        have ONE0 := fun W => one10_any ⟨x.key, x.v, 0⟩ W hxk hxs
        obtain ⟨y, hy⟩ : ∃ y, y = oneI ⟨x.key, x.v, 0⟩ := ⟨_, rfl⟩
        have hye : oneE x = ⟨y.key, y.v⟩ := by rw [hy]; rfl
        rw [← hy] at ONE0
        unfold itV at ONE0
        have ONE := Lib.hid ONE0
        have HN := Lib.hid (show acc ++ [⟨y.key, y.v⟩] = (l.take (j + 1)).map oneE by rw [← hye, HA.out, hx]; exact take_mapE hlt)
        clear hx hca R1 ONE0 hy hye hxk hxs
        go_wp2_with fail
        refine region_puts_of (fun B9 : Nat => [(some 17, .slice (some ⟨b, off, none⟩) l.length cap), (some 18, .int .i64 (j : Int)), (some 19, .pointer (some ⟨b, off + j * 4, none⟩)), (some 20, .pointer (some ⟨b, off + j * 4, none⟩)), (some 21, .string (str x.key)), (some 22, .slice (some ⟨b, off, none⟩) l.length cap), (some 23, .int .i64 (j : Int)), (some 24, .pointer (some ⟨b, off + j * 4, none⟩)), (some 25, .pointer (some ⟨b, off + j * 4 + 1, none⟩)), (some 26, .agg #[.int .i64 x.v.k, .int .i64 x.v.i, .string (str x.v.s)]), (some 27, .agg #[.string (str x.key), .int .i64 x.v.k, .int .i64 x.v.i, .string (str x.v.s), .int .i64 0]), (some 28, .agg #[.string (str y.key), .int .i64 y.v.k, .int .i64 y.v.i, .string (str y.v.s), .int .i64 y.ver]), (some 5, .pointer (some ⟨B9, 0, none⟩))]) (fun B9 z => z.heap[B9]? = some (.cells #[.string (str y.key), .int .i64 y.v.k, .int .i64 y.v.i, .string (str y.v.s), .int .i64 y.ver] 53 (0, 0)) ∧ Below wr.heap.size wr z ∧ wr.heap.size ≤ B9) ?_ ?_
        · have hS : Below wr.heap.size wr wr.drew := (Below.refl _ _).drew
          refine gs_start (S := (fun W => Below wr.heap.size wr W)) (by kernel_rfl) ?_
          refine gs_take (i := 0) (d := (some 17)) (v := ?_) rfl rfl (by kernel_rfl) (fun _ _ _ h => nomatch h.1) (by rfl) hS (fun w' hb' => ?_) ?_
          rotate_left
          · (try go_simp); (try with_reducible rfl)
          try simp only [Act.put, List.setIfInBounds_toArray, List.set_cons_zero, List.set_cons_succ]
          refine gs_take (i := 1) (d := (some 18)) (v := ?_) rfl rfl (by kernel_rfl) (fun _ _ _ h => nomatch h.1) (by rfl) hS (fun w' hb' => ?_) ?_
          rotate_left
          · (try go_simp); (try with_reducible rfl)
          try simp only [Act.put, List.setIfInBounds_toArray, List.set_cons_zero, List.set_cons_succ]
          refine gs_take (i := 2) (d := (some 19)) (v := ?_) rfl rfl (by kernel_rfl) (fun _ _ _ h => nomatch h.1) (by rfl) hS (fun w' hb' => ?_) ?_
          rotate_left
          · (try go_simp); (try with_reducible rfl)
          try simp only [Act.put, List.setIfInBounds_toArray, List.set_cons_zero, List.set_cons_succ]
          refine gs_take (i := 3) (d := (some 20)) (v := ?_) rfl rfl (by kernel_rfl) (fun _ _ _ h => nomatch h.1) (by rfl) hS (fun w' hb' => ?_) ?_
          rotate_left
          · (try go_simp); (try with_reducible rfl)
          try simp only [Act.put, List.setIfInBounds_toArray, List.set_cons_zero, List.set_cons_succ]
          refine gs_take (i := 4) (d := (some 21)) (v := ?_) rfl rfl (by kernel_rfl) (fun _ _ _ h => nomatch h.1) (by rfl) hS (fun w' hb' => ?_) ?_
          rotate_left
          · have zz := (hb'.cell (p := ⟨b, off + j * 4, none⟩) hb).trans c0; (try go_simp); (try with_reducible rfl)
          try simp only [Act.put, List.setIfInBounds_toArray, List.set_cons_zero, List.set_cons_succ]
          refine gs_take (i := 5) (d := (some 22)) (v := ?_) rfl rfl (by kernel_rfl) (fun _ _ _ h => nomatch h.1) (by rfl) hS (fun w' hb' => ?_) ?_
          rotate_left
          · (try go_simp); (try with_reducible rfl)
          try simp only [Act.put, List.setIfInBounds_toArray, List.set_cons_zero, List.set_cons_succ]
          refine gs_take (i := 6) (d := (some 23)) (v := ?_) rfl rfl (by kernel_rfl) (fun _ _ _ h => nomatch h.1) (by rfl) hS (fun w' hb' => ?_) ?_
          rotate_left
          · (try go_simp); (try with_reducible rfl)
          try simp only [Act.put, List.setIfInBounds_toArray, List.set_cons_zero, List.set_cons_succ]
          refine gs_take (i := 7) (d := (some 24)) (v := ?_) rfl rfl (by kernel_rfl) (fun _ _ _ h => nomatch h.1) (by rfl) hS (fun w' hb' => ?_) ?_
          rotate_left
          · (try go_simp); (try with_reducible rfl)
          try simp only [Act.put, List.setIfInBounds_toArray, List.set_cons_zero, List.set_cons_succ]
          refine gs_take (i := 8) (d := (some 25)) (v := ?_) rfl rfl (by kernel_rfl) (fun _ _ _ h => nomatch h.1) (by rfl) hS (fun w' hb' => ?_) ?_
          rotate_left
          · (try go_simp); (try with_reducible rfl)
          try simp only [Act.put, List.setIfInBounds_toArray, List.set_cons_zero, List.set_cons_succ]
          refine gs_take (i := 9) (d := (some 26)) (v := ?_) rfl rfl (by kernel_rfl) (fun _ _ _ h => nomatch h.1) (by rfl) hS (fun w' hb' => ?_) ?_
          rotate_left
          · have z1 := (hb'.cell (p := ⟨b, off + j * 4 + 1, none⟩) hb).trans c1; have z2 := (hb'.cell (p := ⟨b, off + j * 4 + 2, none⟩) hb).trans c2; have z3 := (hb'.cell (p := ⟨b, off + j * 4 + 3, none⟩) hb).trans c3; (try go_simp); (try with_reducible rfl)
          try simp only [Act.put, List.setIfInBounds_toArray, List.set_cons_zero, List.set_cons_succ]
          refine gs_take (i := 10) (d := (some 27)) (v := ?_) rfl rfl (by kernel_rfl) (fun _ _ _ h => nomatch h.1) (by rfl) hS (fun w' hb' => ?_) ?_
          rotate_left
          · (try go_simp); (try with_reducible rfl)
          try simp only [Act.put, List.setIfInBounds_toArray, List.set_cons_zero, List.set_cons_succ]
          refine gs_run2 (i := 11) (k := 12) rfl rfl (by kernel_rfl) (by rfl) (by rfl) (fun K hK => ?_) (fun K hK => ?_)
          · skip
            go_simp
            refine (ONE.out _).mono ?_
            rintro e wc ⟨rfl, g⟩
            have hS2 := hS.trans (g.mono hS.size)
            have hcs := hS2.size
            have hG := hS2
            refine hK _ _ ⟨hS2, ?_⟩
            clear hK K g hS
            have hS := hS2
            clear hS2
            try simp only [Act.put, List.setIfInBounds_toArray, List.set_cons_zero, List.set_cons_succ]
            refine gs_run (i := 12) rfl (by kernel_rfl) (by rfl) (fun K hK => ?_)
            go_simp
            have hS2 := hS.alloc hS.size (.cells #[.string (str []), .int .i64 0, .int .i64 0, .string (str []), .int .i64 0] 53)
            have qz := heap_alloc_new wc (.cells #[.string (str []), .int .i64 0, .int .i64 0, .string (str []), .int .i64 0] 53)
            refine hK _ _ ⟨hS2, ?_⟩
            clear hK K hS
            have hS := hS2
            clear hS2
            try simp only [Act.put, List.setIfInBounds_toArray, List.set_cons_zero, List.set_cons_succ]
            refine gs_run (i := 13) rfl (by kernel_rfl) (by rfl) (fun K hK => ?_)
            go_simp
            refine hK _ _ (and_keep (hG.alloc hG.size _) fun hS2 => ?_)
            clear hK K hS
            have hS := hS2
            clear hS2
            try simp only [Act.put, List.setIfInBounds_toArray, List.set_cons_zero, List.set_cons_succ]
            refine gs_done (by kernel_rfl) ?_
            refine ⟨rfl, wc.heap.size, ?_, ?_, hS, hcs⟩
            · simp only [List.foldl_cons, List.foldl_nil, Act.put, List.setIfInBounds_toArray, List.set_cons_zero, List.set_cons_succ]
            · first | exact heap_alloc_new wc (.cells #[.string (str y.key), .int .i64 y.v.k, .int .i64 y.v.i, .string (str y.v.s), .int .i64 y.ver] 53) | (simp only [drew_heapE]; exact heap_alloc_new wc (.cells #[.string (str y.key), .int .i64 y.v.k, .int .i64 y.v.i, .string (str y.v.s), .int .i64 y.ver] 53))
          · skip
            go_simp
            have hS2 := hS.alloc hS.size (.cells #[.string (str []), .int .i64 0, .int .i64 0, .string (str []), .int .i64 0] 53)
            have qz := heap_alloc_new wr (.cells #[.string (str []), .int .i64 0, .int .i64 0, .string (str []), .int .i64 0] 53)
            refine hK _ _ ⟨hS2, ?_⟩
            clear hK K hS
            have hS := hS2
            clear hS2
            try simp only [Act.put, List.setIfInBounds_toArray, List.set_cons_zero, List.set_cons_succ]
            refine gs_run (i := 11) rfl (by kernel_rfl) (by rfl) (fun K hK => ?_)
            go_simp
            refine (ONE.out _).mono ?_
            rintro e wc ⟨rfl, g⟩
            have qz := (g.block _ (lt_of_block qz)).trans qz
            have hS2 := hS.trans (g.mono hS.size)
            have hcs := hS2.size
            have hG := hS2
            refine hK _ _ ⟨hS2, ?_⟩
            clear hK K g hS
            have hS := hS2
            clear hS2
            try simp only [Act.put, List.setIfInBounds_toArray, List.set_cons_zero, List.set_cons_succ]
            refine gs_run (i := 13) rfl (by kernel_rfl) (by rfl) (fun K hK => ?_)
            have z0 := block_cell qz 0
            have z1 := block_cell qz 1
            have z2 := block_cell qz 2
            have z3 := block_cell qz 3
            have z4 := block_cell qz 4
            have zf := fun i => block_frozen qz i
            go_simp
            refine hK _ _ (and_keep (((((hS.setCell (p := ⟨wr.heap.size, 0, none⟩) (Nat.le_refl _) (.string (str y.key))).setCell (p := ⟨wr.heap.size, 1, none⟩) (Nat.le_refl _) (.int .i64 y.v.k)).setCell (p := ⟨wr.heap.size, 2, none⟩) (Nat.le_refl _) (.int .i64 y.v.i)).setCell (p := ⟨wr.heap.size, 3, none⟩) (Nat.le_refl _) (.string (str y.v.s))).setCell (p := ⟨wr.heap.size, 4, none⟩) (Nat.le_refl _) (.int .i64 y.ver)) fun hS2 => ?_)
            clear hK K hS z0 z1 z2 z3 z4 zf
            have hS := hS2
            clear hS2
            try simp only [Act.put, List.setIfInBounds_toArray, List.set_cons_zero, List.set_cons_succ]
            refine gs_done (by kernel_rfl) ?_
            refine ⟨rfl, wr.heap.size, ?_, ?_, hS, Nat.le_refl _⟩
            · simp only [List.foldl_cons, List.foldl_nil, Act.put, List.setIfInBounds_toArray, List.set_cons_zero, List.set_cons_succ]
            · first | exact (set_at (i := 4) (u := .int .i64 y.ver) (set_at (i := 3) (u := .string (str y.v.s)) (set_at (i := 2) (u := .int .i64 y.v.i) (set_at (i := 1) (u := .int .i64 y.v.k) (set_at (i := 0) (u := .string (str y.key)) qz))))) | (simp only [drew_heapE]; exact (set_at (i := 4) (u := .int .i64 y.ver) (set_at (i := 3) (u := .string (str y.v.s)) (set_at (i := 2) (u := .int .i64 y.v.i) (set_at (i := 1) (u := .int .i64 y.v.k) (set_at (i := 0) (u := .string (str y.key)) qz))))))
        rintro B9 w2 ⟨q9, g2, l9⟩
        simp only [List.foldl_cons, List.foldl_nil, Act.put, List.setIfInBounds_toArray, List.set_cons_zero, List.set_cons_succ]
        have bel2 := chain bel g2
        have hown' := own_keep hown g2
        have hQ9 := block_cell q9
        have u0 := hQ9 0
        have u1 := hQ9 1
        have u2 := hQ9 2
        have u3 := hQ9 3
        clear g2 hown hQ9 q9
        go_wp2_with (at_builtin; refine wpList_app1k edC_len (by decide) w rfl (.tmp 29) (.tmp 35) 57 rfl w.heap.size 68 i0 (.agg #[.string ⟨#[]⟩, .int .i64 0, .int .i64 0, .string ⟨#[]⟩]) 48 Tryd.underlying57 hi hz0 hz1 hz2 rfl _ _ rfl hown' _ (⟨y.key, y.v⟩ : Ed) _ rfl rfl edC_one (by unfold maxLen; omega) (by omega) (Nat.le_refl _) bel2 ?_; intro v' w1 hown2 hb2 hq2; clear hq2)
        exact ⟨⟨j + 1, acc ++ [⟨y.key, y.v⟩], by omega, by push_cast; rfl, by simp; omega, HN, hown2, hb2⟩, by simp [intOf]; omega⟩
      · obtain rfl : j = l.length := by omega
        have E := Lib.hid (show R = acc by rw [HA.out, HR.out]; unfold fewE; rw [List.take_of_length_le (by omega), List.take_of_length_le (by omega)])
        go_wp2_with fail
        go_ret
        have e := E.out
        subst e
        exact ⟨_, rfl, hown, bel⟩
end Go.Proofs.YtbdfcgffkonbiaaDoor
