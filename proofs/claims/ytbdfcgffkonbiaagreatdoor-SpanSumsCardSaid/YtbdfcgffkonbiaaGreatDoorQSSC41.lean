/- Span: laid: items put into a trunk one by one. Written by wip/tools/gen11q.py. -/
import Derived.Test.YtbdfcgffkonbiaaGreatDoorQSSC40
import Derived.Test.YtbdfcgffkonbiaaGreatDoorQSSC24
namespace Go.Proofs.YtbdfcgffkonbiaaGreatDoor
open Go Go.RowKit
set_option linter.unusedVariables false
set_option linter.unusedSimpArgs false
set_option maxRecDepth 100000
def stepL (s : (Nat → List It) × (Nat → Int)) (x : It) : (Nat → List It) × (Nat → Int) := (upd s.1 (bkN x.key) (withL (s.1 (bkN x.key)) x), upd s.2 (bkN x.key) x.ver)
def layL (ps : List It) : (Nat → List It) × (Nat → Int) := ps.foldl stepL (fun _ => [], fun _ => 0)
theorem lay_snoc (ps : List It) (x : It) : layL (ps ++ [x]) = stepL (layL ps) x := by unfold layL; rw [List.foldl_append]; rfl
theorem put_zero {lv : Nat → List It} {vs : Nat → Int} {x : It} (h : putTE lv vs x = 0) : mayTs lv vs 16 = true ∧ isB x.key = true ∧ putE (lv (bkN x.key)) x = 0 ∧ vs (bkN x.key) ≤ x.ver := by
  unfold putTE at h
  split at h
  · rename_i h1
    refine ⟨h1.1, h1.2, ?_⟩
    split at h
    · cases h
    · rename_i h2
      refine ⟨h, ?_⟩
      rw [h] at h2
      have : ¬ (x.ver < vs (bkN x.key)) := fun h3 => h2 ⟨by decide, h3⟩
      omega
  · cases h
theorem OwnT.put {base : Nat} {w w' : World} {cs : Array Value} {lv : Nat → List It} {vs : Nat → Int} (h : OwnT base w cs lv vs) (hh : ∀ g, base ≤ g → g < w.heap.size → w'.heap[g]? = w.heap[g]?) {b : Nat} (hb : b < 16) {u : Value} {l : List It} {v : Int} (hu : w'.ownsRow base 48 5 u l.length (l.flatMap itC)) :
    OwnT base w' ((cs.setIfInBounds b u).setIfInBounds (16 + b) (.int .i64 v)) (upd lv b l) (upd vs b v) := by
  have hs := h.size
  refine ⟨by simp [hs], fun i hi => ?_, fun i hi => ?_⟩
  · rw [Array.getElem?_setIfInBounds_ne (by omega)]
    by_cases hib : i = b
    · subst hib
      exact ⟨u, by rw [Array.getElem?_setIfInBounds_self_of_lt (by omega)], by rw [upd_at]; exact hu⟩
    · rw [Array.getElem?_setIfInBounds_ne (by omega), upd_ne _ _ hib]
      obtain ⟨u2, h1, h2⟩ := h.leaf i hi
      exact ⟨u2, h1, own_moved2 h2 hh⟩
  · by_cases hib : i = b
    · subst hib
      rw [Array.getElem?_setIfInBounds_self_of_lt (by simp; omega), upd_at]
    · rw [Array.getElem?_setIfInBounds_ne (by omega), Array.getElem?_setIfInBounds_ne (by omega), upd_ne _ _ hib]
      exact h.ver i hi
theorem one_put11 {cs : Array Value} {b : Nat} {v : Int} {w : World} {base n : Nat} {u : Value} {xs : List Value} (h : cs.all (·.oneCell') = true) (hu : w.ownsRow base 48 5 u n xs) : ((cs.setIfInBounds b u).setIfInBounds (16 + b) (.int .i64 v)).all (·.oneCell') = true := by
  obtain ⟨a, m, c, rfl⟩ := own_slice hu
  rw [Array.all_eq_true] at h ⊢
  intro i hi
  simp only [Array.size_setIfInBounds] at hi
  rw [Array.getElem_setIfInBounds (by simpa using hi)]
  split
  · rfl
  · rw [Array.getElem_setIfInBounds hi]
    split
    · rfl
    · exact h i hi
theorem rowty_moved {w : World} {base n g : Nat} {u : Value} {xs : List Value} {old : Array Value} (h : w.ownsRow base 48 5 u n xs) (q : w.heap[g]? = some (.cells old 26 (0, 0))) (c : Array Value) : (w.setRow g c).ownsRow base 48 5 u n xs := by
  refine ⟨h.1, ?_⟩
  rcases h.2 with h1 | ⟨k, cap, cur, h1, h2, h3, r⟩
  · exact .inl h1
  · refine .inr ⟨k, cap, cur, h1, h2, (setRow_other w g k c ?_).trans h3, r⟩
    intro e; subst e
    rw [q] at h3; injection h3 with h3; injection h3 with _ h3 _
    exact absurd h3 (by decide)
theorem OwnT.row {base g : Nat} {w : World} {cs : Array Value} {lv : Nat → List It} {vs : Nat → Int} {old : Array Value} (h : OwnT base w cs lv vs) (q : w.heap[g]? = some (.cells old 26 (0, 0))) (c : Array Value) : OwnT base (w.setRow g c) cs lv vs :=
  ⟨h.size, fun b hb => (h.leaf b hb).imp fun u x => ⟨x.1, rowty_moved x.2 q c⟩, h.ver⟩
theorem ownT_zero (base : Nat) (w : World) : OwnT base w zT (fun _ => []) (fun _ => 0) := by
  refine ⟨rfl, fun b hb => ⟨.slice none 0 0, ?_, World.ownsRow_nil _ _ _ _⟩, (rdt_zero w).ver⟩
  have : b = 0 ∨ b = 1 ∨ b = 2 ∨ b = 3 ∨ b = 4 ∨ b = 5 ∨ b = 6 ∨ b = 7 ∨ b = 8 ∨ b = 9 ∨ b = 10 ∨ b = 11 ∨ b = 12 ∨ b = 13 ∨ b = 14 ∨ b = 15 := by omega
  rcases this with rfl | rfl | rfl | rfl | rfl | rfl | rfl | rfl | rfl | rfl | rfl | rfl | rfl | rfl | rfl | rfl <;> rfl
theorem upd_sz11 {lv : Nat → List It} {b : Nat} {l : List It} (h : SzT lv) (hl : SzI l) : SzT (upd lv b l) := fun i hi x hx => by
  unfold upd at hx
  split at hx
  · exact hl x hx
  · exact h i hi x hx
set_option maxHeartbeats 1000000 in
theorem laid_any (ps : List It) (v : Value) (w : World) (tab : TabAt w) (h : RdI w v ps) (hsz : SzI ps) (hn : ps.length ≤ 100) (hok : ∀ j (hj : j < ps.length), putTE (layL (ps.take j)).1 (layL (ps.take j)).2 ps[j] = 0) :
    Calls Tryz.prog 16 #[v] w fun e w' => ∃ cs, e = .returned (.agg cs) ∧ OwnT w.heap.size w' cs (layL ps).1 (layL ps).2 ∧ Below w.heap.size w w' := by
  obtain ⟨ao, cap, rfl, hc, hcm, hr⟩ := RdK.open h
  have z0 := zeroT_run
  have z1 := zT_ne
  have z2 := zT_built
  have hzz := infoTc zT_size
  obtain ⟨q2, q3, zs⟩ := two_allocs w (.cells zT 26) (.cells zT 26)
  have bel0 := ((Below.refl _ w).alloc (Nat.le_refl _) (.cells zT 26)).alloc (by simp) (.cells zT 26)
  have HRD := Lib.hid (show RdI w (.slice ao ps.length cap) ps from hr)
  have TB := Lib.hid tab
  have HS := Lib.hid hsz
  have HOK := Lib.hid hok
  obtain ⟨Z, hZ⟩ : ∃ Z : Ending → World → Prop, Z = fun e w' => ∃ cs, e = .returned (.agg cs) ∧ OwnT w.heap.size w' cs (layL ps).1 (layL ps).2 ∧ Below w.heap.size w w' := ⟨_, rfl⟩
  rw [← hZ]
  have HZ := Lib.hid hZ
  clear h hr hsz hok hZ tab
  go_enter Tryz.func16, Tryz.ntmps16
  go_wp2_with (first | (refine wpList_store_row (o := ⟨none, _, _, _, _, _⟩) rfl 26 (.tmp 3) (.tmp 7) rfl _ zT rfl rfl 26 zT q3 hzz rfl zT_one ?_))
  have n3 := setRow_heap ((w.alloc (.cells zT 26)).alloc (.cells zT 26)) (w.heap.size + 1) _ zT _ _ q3
  have n2 := (setRow_other ((w.alloc (.cells zT 26)).alloc (.cells zT 26)) (w.heap.size + 1) w.heap.size zT (by omega)).trans q2
  have b0 := below_row bel0 (Nat.le_add_right _ 1) zT
  obtain ⟨WS, hWS⟩ : ∃ W, W = ((w.alloc (.cells zT 26)).alloc (.cells zT 26)).setRow (w.heap.size + 1) zT := ⟨_, rfl⟩
  rw [← hWS] at n3 n2 b0 ⊢
  clear hWS q2 q3 zs bel0
  go_loopw [4] (fun i wr => ∃ (j : Nat) (cs : Array Value), j ≤ ps.length ∧ i = .int .i64 (j : Int) ∧ wr.heap[w.heap.size]? = some (.cells zT 26 (0, 0)) ∧ wr.heap[w.heap.size + 1]? = some (.cells cs 26 (0, 0)) ∧ Hid (OwnT w.heap.size wr cs (layL (ps.take j)).1 (layL (ps.take j)).2) ∧ Hid (SzT (layL (ps.take j)).1) ∧ cs.all (·.oneCell') = true ∧ Below w.heap.size w wr) (fun i _ => 200 - (intOf i).toNat)
  case atStart => exact ⟨0, zT, Nat.zero_le _, rfl, n2, n3, Lib.hid (ownT_zero _ _), Lib.hid (fun b hb x hx => by cases hx), zT_one, b0⟩
  case round =>
    obtain ⟨j, cs, hj, rfl, q2, q3, HOW, HSZ, hone, bel⟩ := hrel
    have hsC0 := HOW.out.size
    have hsC := infoTc hsC0
    by_cases hlt : j < ps.length
    · have R1 := HRD.out.below bel (Nat.le_refl _)
      obtain ⟨b, off, rfl, hb, c0, c1, c2, c3, c4⟩ := rdi_cells R1 j hlt
      obtain ⟨x, hx⟩ : ∃ x, x = ps[j]'hlt := ⟨_, rfl⟩
      rw [← hx] at c0 c1 c2 c3 c4
      have hE := HOK.out j hlt
      rw [← hx] at hE
      have hxs := HS.out x (by rw [hx]; exact List.getElem_mem _)
      obtain ⟨hm, hib, hp0, hvv⟩ := put_zero hE
      obtain ⟨his, hmi, -⟩ := putE_zero hp0
      have PT := Lib.hid (fun (W : World) (g : Below wr.heap.size wr W) => (show Calls Tryz.prog 36 #[.agg cs, .agg #[.string (str x.key), .int .i64 x.v.k, .int .i64 x.v.i, .string (str x.v.s), .int .i64 x.ver]] W (TrO W cs (bkN x.key) (withL ((layL (ps.take j)).1 (bkN x.key)) x) x.ver) from by
        have h := refPut10_any cs _ _ x W (TB.out.below (chain bel g)) (HOW.out.rd.below g (Nat.le_refl _)) HSZ.out hm hmi hxs.1
        unfold PutP at h
        rw [if_pos hE] at h
        exact h))
      have HLN := Lib.hid (show layL (ps.take (j + 1)) = stepL (layL (ps.take j)) x by rw [take_snoc11 hlt, lay_snoc, ← hx])
      have HSZ2 : Hid (SzT (layL (ps.take (j + 1))).1) := Lib.hid (by
        rw [HLN.out]
        refine upd_sz11 HSZ.out (fun y hy => ?_)
        rcases with_sub hy with e | e
        · exact HSZ.out _ (bkN_lt _) y e
        · rw [e]; exact hxs)
      have HBW := Lib.hid bel.size
      have BEL := Lib.hid bel
      have hS : Below wr.heap.size wr wr.drew := Below.drew (Below.refl _ _)
      clear hx hE hm hib hp0 hvv his hmi hxs R1 bel
      go_wp2_with fail
      refine gs_start (S := fun w' => Below wr.heap.size wr w') (by kernel_rfl) ?_
      refine gs_take (i := 0) (d := (some 15)) (v := ?_) rfl rfl (by kernel_rfl) (fun _ _ _ h => h) (by rfl) hS (fun w' hb' => ?_) ?_
      rotate_left
      · (refine load_row_op _ _ (.tmp 3) ?_ ?_ ((hb'.block _ (lt_of_block q3)).trans q3) Tryz.underlying26 ?_ hsC <;> rfl); (try go_simp); (try with_reducible rfl)
      try simp only [Act.put, List.setIfInBounds_toArray, List.set_cons_zero, List.set_cons_succ]
      refine gs_take (i := 1) (d := (some 16)) (v := ?_) rfl rfl (by kernel_rfl) (fun _ _ _ h => h) (by rfl) hS (fun w' hb' => ?_) ?_
      rotate_left
      · (try go_simp); (try with_reducible rfl)
      try simp only [Act.put, List.setIfInBounds_toArray, List.set_cons_zero, List.set_cons_succ]
      refine gs_take (i := 2) (d := (some 17)) (v := ?_) rfl rfl (by kernel_rfl) (fun _ _ _ h => h) (by rfl) hS (fun w' hb' => ?_) ?_
      rotate_left
      · (try go_simp); (try with_reducible rfl)
      try simp only [Act.put, List.setIfInBounds_toArray, List.set_cons_zero, List.set_cons_succ]
      refine gs_take (i := 3) (d := (some 18)) (v := ?_) rfl rfl (by kernel_rfl) (fun _ _ _ h => h) (by rfl) hS (fun w' hb' => ?_) ?_
      rotate_left
      · (try go_simp); (try with_reducible rfl)
      try simp only [Act.put, List.setIfInBounds_toArray, List.set_cons_zero, List.set_cons_succ]
      refine gs_take (i := 4) (d := (some 19)) (v := ?_) rfl rfl (by kernel_rfl) (fun _ _ _ h => h) (by rfl) hS (fun w' hb' => ?_) ?_
      rotate_left
      · have c0 := (hb'.cell (p := ⟨b, off + j * 5, none⟩) hb).trans c0; have c1 := (hb'.cell (p := ⟨b, off + j * 5 + 1, none⟩) hb).trans c1; have c2 := (hb'.cell (p := ⟨b, off + j * 5 + 2, none⟩) hb).trans c2; have c3 := (hb'.cell (p := ⟨b, off + j * 5 + 3, none⟩) hb).trans c3; have c4 := (hb'.cell (p := ⟨b, off + j * 5 + 4, none⟩) hb).trans c4; (try go_simp); (try with_reducible rfl)
      try simp only [Act.put, List.setIfInBounds_toArray, List.set_cons_zero, List.set_cons_succ]
      refine gs_run2 (i := 5) (k := 9) rfl rfl (by kernel_rfl) (by rfl) (by rfl) (fun K hK => ?_) (fun K hK => ?_)
      · skip
        go_simp
        have hbn := hS
        refine (PT.out _ hbn).mono ?_
        rintro e v1 ⟨u, rfl, own1, g1⟩
        have hS := chain hbn g1
        have hV1 := Lib.hid hS.size
        have own1 := own_base own1 (Nat.le_trans HBW.out hbn.size)
        obtain ⟨C1, hC1⟩ : ∃ C, C = ((cs.setIfInBounds (bkN x.key) u).setIfInBounds (16 + bkN x.key) (.int .i64 x.ver)) := ⟨_, rfl⟩
        have HC1 := Lib.hid hC1
        have hz1 : C1.size = 32 := by rw [hC1]; simp [hsC0]
        have ho1 : C1.all (·.oneCell') = true := by rw [hC1]; exact one_put11 hone own1
        rw [← hC1]
        refine hK _ _ ⟨hS, ?_⟩; clear hK K hbn g1 hC1
        try simp only [Act.put, List.setIfInBounds_toArray, List.set_cons_zero, List.set_cons_succ]
        refine gs_take (i := 6) (d := (some 14)) (v := ?_) rfl rfl (by kernel_rfl) (fun _ _ _ h => h) (by rfl) hS (fun w' hb' => ?_) ?_
        rotate_left
        · (try go_simp); (try with_reducible rfl)
        try simp only [Act.put, List.setIfInBounds_toArray, List.set_cons_zero, List.set_cons_succ]
        refine gs_take (i := 7) (d := (some 21)) (v := ?_) rfl rfl (by kernel_rfl) (fun _ _ _ h => h) (by rfl) hS (fun w' hb' => ?_) ?_
        rotate_left
        · (try go_simp); (try with_reducible rfl)
        try simp only [Act.put, List.setIfInBounds_toArray, List.set_cons_zero, List.set_cons_succ]
        refine gs_take (i := 8) (d := (some 22)) (v := ?_) rfl rfl (by kernel_rfl) (fun _ _ _ h => h) (by rfl) hS (fun w' hb' => ?_) ?_
        rotate_left
        · (try go_simp); (try with_reducible rfl)
        try simp only [Act.put, List.setIfInBounds_toArray, List.set_cons_zero, List.set_cons_succ]
        refine gs_run (i := 9) rfl (by kernel_rfl) (by rfl) (fun K hK => ?_)
        go_simp
        have qx := heap_alloc_new v1 (.cells zT 26)
        have hS := hS.alloc hS.size (.cells zT 26)
        have own1 := own_keep own1 ((Below.refl v1.heap.size v1).alloc (Nat.le_refl _) (.cells zT 26))
        refine hK _ _ ⟨hS, ?_⟩; clear hK K
        try simp only [Act.put, List.setIfInBounds_toArray, List.set_cons_zero, List.set_cons_succ]
        refine gs_run (i := 10) rfl (by kernel_rfl) (by rfl) (fun K hK => ?_)
        refine wp_store_row 26 (.tmp 5) (.tmp 21) rfl v1.heap.size C1 rfl rfl 26 zT qx (infoTc hz1) (by rw [hz1]; rfl) ho1 ?_
        have own1 := rowty_moved own1 qx C1
        have hS := below_row hS hV1.out C1
        have qx := setRow_heap (v1.alloc (.cells zT 26)) v1.heap.size _ C1 _ _ qx
        refine hK _ _ ⟨hS, ?_⟩; clear hK K
        try simp only [Act.put, List.setIfInBounds_toArray, List.set_cons_zero, List.set_cons_succ]
        refine gs_take (i := 11) (d := (some 6)) (v := ?_) rfl rfl (by kernel_rfl) (fun _ _ _ h => h) (by rfl) hS (fun w' hb' => ?_) ?_
        rotate_left
        · (try go_simp); (try with_reducible rfl)
        try simp only [Act.put, List.setIfInBounds_toArray, List.set_cons_zero, List.set_cons_succ]
        refine gs_done (by kernel_rfl) ?_
        obtain ⟨WX, hWX⟩ : ∃ W, W = (v1.alloc (.cells zT 26)).setRow v1.heap.size C1 := ⟨_, rfl⟩
        rw [← hWX] at qx hS own1 ⊢
        obtain ⟨xb, hxb⟩ : ∃ b, b = v1.heap.size := ⟨_, rfl⟩
        rw [← hxb] at qx ⊢
        have OWN2 : OwnT w.heap.size WX C1 (upd (layL (ps.take j)).1 (bkN x.key) (withL ((layL (ps.take j)).1 (bkN x.key)) x)) (upd (layL (ps.take j)).2 (bkN x.key) x.ver) := by
          rw [HC1.out]
          exact OwnT.put HOW.out (fun g _ hl => hS.block g hl) (bkN_lt _) own1
        have q3 := (hS.block _ (lt_of_block q3)).trans q3
        have q2 := (hS.block _ (lt_of_block q2)).trans q2
        have bel2 := chain BEL.out hS
        have hsC1 := infoTc hz1
        have OW3 := Lib.hid (OWN2.row q3 C1)
        have n3 := setRow_heap WX (w.heap.size + 1) _ C1 _ _ q3
        have n2 := (setRow_other WX (w.heap.size + 1) w.heap.size C1 (by omega)).trans q2
        have b3 := below_row bel2 (Nat.le_add_right _ 1) C1
        have hzc : cs.size = C1.size := by rw [hsC0, hz1]
        clear hWX hxb hS own1 OWN2 bel2
        go_wp2_with (first | ((with_reducible refine wpList_load_row (o := ⟨some 25, _, _, _, _, _⟩) rfl 26 (.tmp 5) rfl _ rfl _ C1 (0, 0) _ qx Tryz.underlying26 rfl hsC1 ?_)) | (refine wpList_store_row (o := ⟨none, _, _, _, _, _⟩) rfl 26 (.tmp 3) (.tmp 25) rfl _ C1 rfl rfl 26 cs q3 hsC1 hzc ho1 ?_))
        refine ⟨⟨j + 1, C1, by omega, by push_cast; rfl, n2, n3, ?_, HSZ2, ho1, b3⟩, by simp [intOf]; omega⟩
        have h := OW3.out
        rw [HLN.out]
        exact Lib.hid h
      · skip
        go_simp
        have qx := heap_alloc_new wr (.cells zT 26)
        have hS := hS.alloc hS.size (.cells zT 26)
        refine hK _ _ ⟨hS, ?_⟩; clear hK K
        try simp only [Act.put, List.setIfInBounds_toArray, List.set_cons_zero, List.set_cons_succ]
        refine gs_run (i := 5) rfl (by kernel_rfl) (by rfl) (fun K hK => ?_)
        go_simp
        have hbn := hS
        refine (PT.out _ hbn).mono ?_
        rintro e v1 ⟨u, rfl, own1, g1⟩
        have hS := chain hbn g1
        have hV1 := Lib.hid hS.size
        have qx := (g1.block _ (lt_of_block qx)).trans qx
        have own1 := own_base own1 (Nat.le_trans HBW.out hbn.size)
        obtain ⟨C1, hC1⟩ : ∃ C, C = ((cs.setIfInBounds (bkN x.key) u).setIfInBounds (16 + bkN x.key) (.int .i64 x.ver)) := ⟨_, rfl⟩
        have HC1 := Lib.hid hC1
        have hz1 : C1.size = 32 := by rw [hC1]; simp [hsC0]
        have ho1 : C1.all (·.oneCell') = true := by rw [hC1]; exact one_put11 hone own1
        rw [← hC1]
        refine hK _ _ ⟨hS, ?_⟩; clear hK K hbn g1 hC1
        try simp only [Act.put, List.setIfInBounds_toArray, List.set_cons_zero, List.set_cons_succ]
        refine gs_take (i := 6) (d := (some 14)) (v := ?_) rfl rfl (by kernel_rfl) (fun _ _ _ h => h) (by rfl) hS (fun w' hb' => ?_) ?_
        rotate_left
        · (try go_simp); (try with_reducible rfl)
        try simp only [Act.put, List.setIfInBounds_toArray, List.set_cons_zero, List.set_cons_succ]
        refine gs_take (i := 7) (d := (some 21)) (v := ?_) rfl rfl (by kernel_rfl) (fun _ _ _ h => h) (by rfl) hS (fun w' hb' => ?_) ?_
        rotate_left
        · (try go_simp); (try with_reducible rfl)
        try simp only [Act.put, List.setIfInBounds_toArray, List.set_cons_zero, List.set_cons_succ]
        refine gs_take (i := 8) (d := (some 22)) (v := ?_) rfl rfl (by kernel_rfl) (fun _ _ _ h => h) (by rfl) hS (fun w' hb' => ?_) ?_
        rotate_left
        · (try go_simp); (try with_reducible rfl)
        try simp only [Act.put, List.setIfInBounds_toArray, List.set_cons_zero, List.set_cons_succ]
        refine gs_run (i := 10) rfl (by kernel_rfl) (by rfl) (fun K hK => ?_)
        refine wp_store_row 26 (.tmp 5) (.tmp 21) rfl wr.heap.size C1 rfl rfl 26 zT qx (infoTc hz1) (by rw [hz1]; rfl) ho1 ?_
        have own1 := rowty_moved own1 qx C1
        have hS := below_row hS (Nat.le_refl _) C1
        have qx := setRow_heap v1 wr.heap.size _ C1 _ _ qx
        refine hK _ _ ⟨hS, ?_⟩; clear hK K
        try simp only [Act.put, List.setIfInBounds_toArray, List.set_cons_zero, List.set_cons_succ]
        refine gs_take (i := 11) (d := (some 6)) (v := ?_) rfl rfl (by kernel_rfl) (fun _ _ _ h => h) (by rfl) hS (fun w' hb' => ?_) ?_
        rotate_left
        · (try go_simp); (try with_reducible rfl)
        try simp only [Act.put, List.setIfInBounds_toArray, List.set_cons_zero, List.set_cons_succ]
        refine gs_done (by kernel_rfl) ?_
        obtain ⟨WX, hWX⟩ : ∃ W, W = v1.setRow wr.heap.size C1 := ⟨_, rfl⟩
        rw [← hWX] at qx hS own1 ⊢
        obtain ⟨xb, hxb⟩ : ∃ b, b = wr.heap.size := ⟨_, rfl⟩
        rw [← hxb] at qx ⊢
        have OWN2 : OwnT w.heap.size WX C1 (upd (layL (ps.take j)).1 (bkN x.key) (withL ((layL (ps.take j)).1 (bkN x.key)) x)) (upd (layL (ps.take j)).2 (bkN x.key) x.ver) := by
          rw [HC1.out]
          exact OwnT.put HOW.out (fun g _ hl => hS.block g hl) (bkN_lt _) own1
        have q3 := (hS.block _ (lt_of_block q3)).trans q3
        have q2 := (hS.block _ (lt_of_block q2)).trans q2
        have bel2 := chain BEL.out hS
        have hsC1 := infoTc hz1
        have OW3 := Lib.hid (OWN2.row q3 C1)
        have n3 := setRow_heap WX (w.heap.size + 1) _ C1 _ _ q3
        have n2 := (setRow_other WX (w.heap.size + 1) w.heap.size C1 (by omega)).trans q2
        have b3 := below_row bel2 (Nat.le_add_right _ 1) C1
        have hzc : cs.size = C1.size := by rw [hsC0, hz1]
        clear hWX hxb hS own1 OWN2 bel2
        go_wp2_with (first | ((with_reducible refine wpList_load_row (o := ⟨some 25, _, _, _, _, _⟩) rfl 26 (.tmp 5) rfl _ rfl _ C1 (0, 0) _ qx Tryz.underlying26 rfl hsC1 ?_)) | (refine wpList_store_row (o := ⟨none, _, _, _, _, _⟩) rfl 26 (.tmp 3) (.tmp 25) rfl _ C1 rfl rfl 26 cs q3 hsC1 hzc ho1 ?_))
        refine ⟨⟨j + 1, C1, by omega, by push_cast; rfl, n2, n3, ?_, HSZ2, ho1, b3⟩, by simp [intOf]; omega⟩
        have h := OW3.out
        rw [HLN.out]
        exact Lib.hid h
    · obtain rfl : j = ps.length := by omega
      have n2' := setRow_heap wr w.heap.size _ cs _ _ q2
      have OWF := Lib.hid (HOW.out.row q2 cs)
      have bF := below_row bel (Nat.le_refl _) cs
      have hzz2 : zT.size = cs.size := by rw [hsC0]; rfl
      go_wp2_with (first | ((with_reducible refine wpList_load_row (o := ⟨some 26, _, _, _, _, _⟩) rfl 26 (.tmp 3) rfl _ rfl _ cs (0, 0) _ q3 Tryz.underlying26 rfl hsC ?_)) | (refine wpList_store_row (o := ⟨none, _, _, _, _, _⟩) rfl 26 (.tmp 2) (.tmp 26) rfl _ cs rfl rfl 26 zT q2 hsC hzz2 hone ?_))
      refine bodyPost_ret (results_cell_row rfl _ _ _ 26 cs (0, 0) _ rfl n2' Tryz.underlying26 rfl hsC) rfl ?_
      rw [HZ.out]
      have h := OWF.out
      rw [List.take_length] at h
      exact ⟨cs, rfl, h, bF⟩
end Go.Proofs.YtbdfcgffkonbiaaGreatDoor
