/- Roots: the chapter's example, mathematics. -/
/- Roots: the chapter's example. -/
/- Roots: the root of a trunk, by the document; a table of texts. Written by wip/tools/gen12d.py. -/
/- Roots: what the laws share. Written by wip/tools/gen12q.py. -/
/- Roots: a table of texts, and the document's. -/
import Derived.Test.YtoagdmglchccnaaGreatDoorQRR41
import Derived.Test.YtoagdmglchccnaaGreatDoorQRR42
import Derived.Test.YtoagdmglchccnaaGreatDoorQRR7
namespace Go.Proofs.YtoagdmglchccnaaGreatDoor
open Go Go.RowKit
set_option linter.unusedVariables false
set_option linter.unusedSimpArgs false
theorem itoa_0 : Lib.itoa 0 = [48] := by
  have := Lib.itoa_nonneg 0
  rw [Lib.decDigits_one (by omega)] at this
  exact this
theorem itoa_1 : Lib.itoa 1 = [49] := by
  have := Lib.itoa_nonneg 1
  rw [Lib.decDigits_one (by omega)] at this
  exact this
def sA : T2.Txt := [48, 44]
def sB : T2.Txt := [49, 44, 49, 44, 49, 44, 49, 44, 49, 44, 49, 44, 49, 44, 49, 44, 49, 44, 49, 44, 49, 44, 49, 44, 49, 44, 49, 44, 49, 44, 49, 44]
def ones : List Int := [1, 1, 1, 1, 1, 1, 1, 1, 1, 1, 1, 1, 1, 1, 1, 1]
theorem dig_A : T2.digN [0] = sA := by simp [T2.digN, itoa_0, sA]
theorem dig_B : T2.digN ones = sB := by simp [T2.digN, itoa_1, sB, ones]
theorem leaf_zero0 : leafT [] [] 0 = ([sA], 1) := by
  have e : leafT [] [] 0 = tmK ([], [0]) := rfl
  rw [e]; unfold tmK
  simp only [dig_A]
  rfl
theorem leaf_zero1 : leafT [sA] [] 0 = ([sA], 1) := by
  have e : leafT [sA] [] 0 = tmK ([sA], [0]) := rfl
  rw [e]; unfold tmK
  simp only [dig_A]
  rfl
theorem leaves_zero : ∀ k, leavesT [] nilT nilV (k + 1) = ([sA], List.replicate (k + 1) 1)
  | 0 => by
    show ((leafT [] [] 0).1, [] ++ [((leafT [] [] 0).2 : Int)]) = _
    rw [leaf_zero0]; rfl
  | k + 1 => by
    show ((leafT (leavesT [] nilT nilV (k + 1)).1 [] 0).1, (leavesT [] nilT nilV (k + 1)).2 ++ [((leafT (leavesT [] nilT nilV (k + 1)).1 [] 0).2 : Int)]) = _
    rw [leaves_zero k]
    simp only
    rw [leaf_zero1, List.replicate_succ' (n := k + 1)]
    rfl
theorem leaves16_zero : leavesT [] nilT nilV 16 = ([sA], ones) := leaves_zero 15
theorem root_zero : rootT [] nilT nilV = ([sA, sB], 2) := by
  unfold rootT
  rw [leaves16_zero]
  unfold tmK
  simp only [dig_B]
  rfl
theorem isDig_A : IsDig sA [0] := ⟨dig_A.symm, fun x hx => by rw [List.mem_singleton.1 hx]; unfold T2.fitsI; omega⟩
theorem isDig_B : IsDig sB ones := ⟨dig_B.symm, fun x hx => by
  have : x = 1 := by simp [ones] at hx; exact hx
  rw [this]; unfold T2.fitsI; omega⟩
theorem text_A : textO [sA, sB] 1 = some sA := rfl
theorem text_B : textO [sA, sB] 2 = some sB := rfl
theorem leavesO_1 : leavesO [sA, sB] 1 = ([], 3) := leavesO_len text_A (splO_some isDig_A) (by decide)
theorem leavesO_2 : leavesO [sA, sB] 2 = (ones, 0) := leavesO_some text_B (splO_some isDig_B) rfl (by decide)
theorem chunksO_1 : chunksO [sA, sB] 1 = (0, [], 0) := by
  unfold chunksO
  rw [text_A]
  simp only
  rw [splO_some isDig_A]
  exact leafO_some (by decide) rfl
theorem ofL_nil : ofL vfP [] = ([], 0, 0) := by rfl
theorem bktO_1 : bktO [sA, sB] 1 = ([], 0, 0) := by
  have h1 := chunksO_1
  have h2 := ofL_nil
  rw [bktO_ok (by rw [h1]) (by rw [h1]; simp only; rw [h2])]
  rw [h1]; simp only; rw [h2]
theorem ones_at (b : Nat) (h : b < 16) : ones.getD b 0 = 1 := by
  have : b = 0 ∨ b = 1 ∨ b = 2 ∨ b = 3 ∨ b = 4 ∨ b = 5 ∨ b = 6 ∨ b = 7 ∨ b = 8 ∨ b = 9 ∨ b = 10 ∨ b = 11 ∨ b = 12 ∨ b = 13 ∨ b = 14 ∨ b = 15 := by omega
  rcases this with rfl | rfl | rfl | rfl | rfl | rfl | rfl | rfl | rfl | rfl | rfl | rfl | rfl | rfl | rfl | rfl <;> rfl
theorem mayTs_congr {lv lv' : Nat → List It} {vs vs' : Nat → Int} (h : ∀ b, b < 16 → lv b = lv' b ∧ vs b = vs' b) : mayTs lv vs 16 = mayTs lv' vs' 16 := by
  unfold mayTs
  rw [Bool.eq_iff_iff, List.all_eq_true, List.all_eq_true]
  exact ⟨fun H b hb => by have e := h b (List.mem_range.1 hb); rw [← e.1, ← e.2]; exact H b hb, fun H b hb => by have e := h b (List.mem_range.1 hb); rw [e.1, e.2]; exact H b hb⟩
theorem may_zero : mayTs nilT nilV 16 = true := by kernel_rfl
theorem back_at {lv : Nat → List It} {vs : Nat → Int} {c : Int} (h : BackR [sA, sB] 2 lv vs c) : c = 0 ∧ ∀ b, b < 16 → lv b = [] ∧ vs b = 0 := by
  have e2 := leavesO_2
  have q : ∀ b, b < 16 → lvO [sA, sB] ones b = [] ∧ vsO [sA, sB] ones b = 0 ∧ ceO [sA, sB] ones b = 0 := fun b hb => by
    unfold lvO vsO ceO
    rw [ones_at b hb, bktO_1]
    exact ⟨rfl, rfl, rfl⟩
  have hm : mayTs (lvO [sA, sB] ones) (vsO [sA, sB] ones) 16 = true := by
    rw [mayTs_congr (lv' := nilT) (vs' := nilV) (fun b hb => ⟨(q b hb).1, (q b hb).2.1⟩)]
    exact may_zero
  have h0 : BackR [sA, sB] 2 (lvO [sA, sB] (leavesO [sA, sB] 2).1) (vsO [sA, sB] (leavesO [sA, sB] 2).1) 0 := BackR.ok (by rw [e2]) (by rw [e2]; exact fun k hk => (q k hk).2.2) (by rw [e2]; exact hm)
  rw [e2] at h0
  obtain ⟨e, rfl, rfl⟩ := backR_one h h0
  exact ⟨e, fun b hb => ⟨(q b hb).1, (q b hb).2.1⟩⟩
end Go.Proofs.YtoagdmglchccnaaGreatDoor
namespace Go.Proofs.YtoagdmglchccnaaGreatDoor
open Go Go.RowKit
set_option linter.unusedVariables false
set_option linter.unusedSimpArgs false
set_option maxRecDepth 100000 in
set_option maxHeartbeats 4000000 in
theorem awake12_any (w : World) (tab : TabAt w) (t : T2.Tab w) (es : ErrS w) : Calls Tryz.prog 16 #[] w fun e w' => e = .returned (.bool true) ∧ Below w.heap.size w w' := by
  obtain ⟨Z, hZ⟩ : ∃ Z : Ending → World → Prop, Z = fun e w' => e = .returned (.bool true) ∧ Below w.heap.size w w' := ⟨_, rfl⟩
  rw [← hZ]
  have HZ := Lib.hid hZ
  have NW := Lib.hid (T2.new_any w)
  have TB0 := Lib.hid tab
  have T0 := Lib.hid t
  have E0 := Lib.hid es
  have z0 := zeroT_run
  have z1 := zT_ne
  clear hZ tab t es
  go_enter Tryz.func16, Tryz.ntmps16
  go_wp2_with fail
  refine NW.out.mono ?_
  rintro e w1 ⟨rfl, g1, tb1⟩
  have OF := Lib.hid (of12_yes w w.heap.size (w.heap.size + 1) w.heap.size (.slice none 0 0) [] zT nilT nilV w1 TB0.out T0.out g1 (Nat.le_refl _) tb1 g1.size (rdt_zero w) (fun b hb x hx => by cases hx) (fun b hb x hx => by cases hx) may_zero (by simp))
  have G1 := Lib.hid g1
  clear g1 tb1 NW
  go_wp2_with fail
  refine OF.out.mono ?_
  rintro e w2 ⟨ls, v2, rfl, own2, tb2, tr2, -⟩
  rw [root_zero] at tb2 ⊢
  rw [leaves16_zero] at own2
  have G2 := Lib.hid (T2.below_trn G1.out tr2 (fun k hk => by
    rcases hk with e | e | e
    · omega
    · omega
    · simp [Value.ownBlock] at e))
  have hL : ∀ s ∈ ([sA, sB] : TxL), s.length ≤ 4000 := by
    intro s hs
    rcases List.mem_cons.1 hs with rfl | hs
    · decide
    · rw [List.mem_singleton.1 hs]; decide
  have BK := Lib.hid (back12_any w.heap.size (w.heap.size + 1) w.heap.size v2 [sA, sB] 2 w2 (TB0.out.below G2.out) tb2 (T0.out.below G2.out) (E0.out.below G2.out) hL)
  have LV := Lib.hid (fun W (g : Below w2.heap.size w2 W) => leaves12_any w.heap.size (w.heap.size + 1) w.heap.size v2 [sA, sB] 1 W (tb2.below g) (T0.out.below (chain G2.out g)) (E0.out.below (chain G2.out g)) hL)
  have OW2 := Lib.hid own2
  obtain ⟨gq, cq, rfl, -, -⟩ := slice_of_own own2 (by omega)
  clear hL tb2 tr2 own2 OF
  go_wp2_with fail
  refine BK.out.mono ?_
  rintro e w3 ⟨cs, c, lv, vs, rfl, ot, -, g3, br⟩
  obtain ⟨rfl, hz⟩ := back_at br
  have RD3 : RdT w3 cs (fun _ => []) (fun _ => 0) := ⟨ot.size, fun b hb => by
    obtain ⟨u, h1, h2⟩ := ot.rd.leaf b hb
    rw [(hz b hb).1] at h2
    exact ⟨u, h1, h2⟩, fun b hb => by
    have := ot.ver b hb
    rw [(hz b hb).2] at this
    exact this⟩
  have hcs := infoTc RD3.size
  have hcz : zT.size = cs.size := by rw [RD3.size]; rfl
  have hone := RD3.one
  have q5 := heap_alloc_new w3 (.cells zT 27)
  have g4 := (Below.refl w3.heap.size w3).alloc (Nat.le_refl _) (.cells zT 27)
  have q5b := setRow_heap _ _ _ cs _ _ q5
  have g5 := Lib.hid (below_row g4 (Nat.le_refl _) cs)
  have RD4 := Lib.hid (RD3.below g5.out (Nat.le_refl _))
  have G5 := Lib.hid (chain g3 g5.out)
  have hgq : gq < w2.heap.size := (T2.own_lt OW2.out gq rfl).2
  have c0 : w2.cell? ⟨gq, 0, none⟩ = some (.int .i64 1) := by
    have := OW2.out.cellAt 0 (by decide)
    simpa [ones, T2.iv] using this
  have c15 : w2.cell? ⟨gq, 15, none⟩ = some (.int .i64 1) := by
    have := OW2.out.cellAt 15 (by decide)
    simpa [ones, T2.iv] using this
  have LV5 := LV.out _ G5.out
  rw [leavesO_1] at LV5
  have LVX := Lib.hid LV5
  clear ot hz br g3 g4 RD3 LV5 BK
  go_wp2_with (with_reducible refine wpList_store_row (o := ⟨none, _, _, _, _, _⟩) rfl 27 (.tmp 5) (.tmp 22) rfl _ cs rfl rfl _ zT q5 hcs hcz hone ?_)
  obtain ⟨w4, hw4⟩ : ∃ w4, w4 = (w3.alloc (.cells zT 27)).setRow w3.heap.size cs := ⟨_, rfl⟩
  rw [← hw4] at q5b G5 RD4 LVX ⊢
  clear hw4 q5 g5
  refine LVX.out.mono ?_
  rintro e w6 ⟨u6, rfl, -, g6⟩
  have q6 := (g6.block _ (lt_of_block q5b)).trans q5b
  have G6 := Lib.hid (chain G5.out g6)
  have RD6 := Lib.hid (RD4.out.below g6 (Nat.le_refl _))
  have c0 : w6.cell? ⟨gq, 0, none⟩ = some (.int .i64 1) := by rw [World.cell?_of_block (w := w2) (G6.out.block _ hgq)]; exact c0
  have c15 : w6.cell? ⟨gq, 15, none⟩ = some (.int .i64 1) := by rw [World.cell?_of_block (w := w2) (G6.out.block _ hgq)]; exact c15
  have SM := Lib.hid (tsame_yes cs zT (fun _ => []) (fun _ => 0) w6 RD6.out (rdt_zero w6) (fun _ _ => Nat.zero_le _))
  clear g6 q5b
  go_wp2_with ((with_reducible refine wpList_load_row_g (o := ⟨some 53, _, _, _, _, _⟩) ?_ 27 (.tmp 5) rfl _ rfl _ cs (0, 0) _ q6 Tryz.underlying27 rfl hcs ?_); rfl)
  refine SM.out.mono ?_
  rintro e w7 ⟨rfl, g7⟩
  have G7 := Lib.hid (chain G2.out (chain G6.out g7))
  clear g7
  go_wp2_with fail
  show Z _ _
  rw [HZ.out]
  exact ⟨rfl, G7.out⟩
end Go.Proofs.YtoagdmglchccnaaGreatDoor
namespace Go.Proofs.YtoagdmglchccnaaGreatDoor
open Go Go.RowKit
set_option linter.unusedVariables false
set_option linter.unusedSimpArgs false
def ROfT (w : World) (base : Nat) (lv0 : Value) (L : TxL) (lv : Nat → List It) (vs : Nat → Int) (e : Ending) (w' : World) : Prop :=
  ∃ lv' ls, e = .returned (.tuple #[lv', .int .i64 ((rootT L lv vs).2 : Int), ls, .int .i64 0]) ∧ w'.ownsRow w.heap.size 3 1 ls 16 ((leavesT L lv vs 16).2.map T2.iv) ∧ w'.ownsRow base 9 1 lv' (rootT L lv vs).1.length ((rootT L lv vs).1.map T2.sv) ∧ T2.Trn (fun k => lv0.ownBlock = some k) w w' ∧ ∀ k, lv'.ownBlock = some k → lv0.ownBlock = some k ∨ w.heap.size ≤ k
end Go.Proofs.YtoagdmglchccnaaGreatDoor
namespace Go.Proofs.YtoagdmglchccnaaGreatDoor
open Go Go.RowKit
set_option linter.unusedVariables false
set_option linter.unusedSimpArgs false
set_option maxRecDepth 100000 in
theorem same12_yes (u v : Value) (xs : List Int) (w : World) (hu : RdV w u (xs.map T2.iv)) (hv : RdV w v (xs.map T2.iv)) : Calls Tryz.prog 18 #[u, v] w fun e w' => e = .returned (.bool true) ∧ Below w.heap.size w w' := by
  obtain ⟨ao, cap, rfl, hle, hmax, hcu⟩ := T2.rdv_open hu
  obtain ⟨ao2, cap2, rfl, hle2, hmax2, hcv⟩ := T2.rdv_open hv
  obtain ⟨Z, hZ⟩ : ∃ Z : Ending → World → Prop, Z = fun e w' => e = .returned (.bool true) ∧ Below w.heap.size w w' := ⟨_, rfl⟩
  rw [← hZ]
  have HZ := Lib.hid hZ
  have HM := Lib.hid (show xs.length ≤ 9223372036854775807 by unfold maxLen at hmax; omega)
  clear hZ hu hv hle hmax hle2 hmax2
  go_enter Tryz.func18, Tryz.ntmps18
  go_wp2_with fail
  go_loopw [5] (fun i wr => ∃ j : Nat, j ≤ xs.length ∧ i = .int .i64 (j : Int) ∧ Hid (Below w.heap.size w wr)) (fun i _ => xs.length + 1 - (intOf i).toNat)
  case atStart => exact ⟨0, Nat.zero_le _, rfl, Lib.hid (Below.refl _ _)⟩
  case round =>
    obtain ⟨j, hj, rfl, HG⟩ := hrel
    have hm := HM.out
    by_cases hlt : j < xs.length
    · obtain ⟨b1, o1, rfl, hb1, hc1⟩ := hcu.out (by omega)
      obtain ⟨b2, o2, rfl, hb2, hc2⟩ := hcv.out (by omega)
      have hc1 := hc1 j hlt
      have hc2 := hc2 j hlt
      obtain ⟨x, hx⟩ : ∃ x, x = xs[j] := ⟨_, rfl⟩
      rw [← hx] at hc1 hc2
      have hc1 : wr.cell? ⟨b1, o1 + j, none⟩ = some (.int .i64 x) := by rw [World.cell?_of_block (w := w) (HG.out.block _ hb1)]; exact hc1
      have hc2 : wr.cell? ⟨b2, o2 + j, none⟩ = some (.int .i64 x) := by rw [World.cell?_of_block (w := w) (HG.out.block _ hb2)]; exact hc2
      clear hx hcu hcv
      go_wp2_with fail
      refine gs_start (S := (fun W => W.cell? ⟨b1, o1 + j, none⟩ = some (.int .i64 x) ∧ W.cell? ⟨b2, o2 + j, none⟩ = some (.int .i64 x))) (by kernel_rfl) ?_
      refine gs_take (i := 0) (d := (some 17)) (v := ?_) rfl rfl (by kernel_rfl) (fun _ _ _ h => h) (by rfl) ⟨hc1, hc2⟩ (fun w' hb' => ?_) ?_
      rotate_left
      · (try go_simp); (try with_reducible rfl)
      try simp only [Act.put, List.setIfInBounds_toArray, List.set_cons_zero, List.set_cons_succ]
      refine gs_take (i := 1) (d := (some 18)) (v := ?_) rfl rfl (by kernel_rfl) (fun _ _ _ h => h) (by rfl) ⟨hc1, hc2⟩ (fun w' hb' => ?_) ?_
      rotate_left
      · (try go_simp); (try with_reducible rfl)
      try simp only [Act.put, List.setIfInBounds_toArray, List.set_cons_zero, List.set_cons_succ]
      refine gs_take (i := 2) (d := (some 19)) (v := ?_) rfl rfl (by kernel_rfl) (fun _ _ _ h => h) (by rfl) ⟨hc1, hc2⟩ (fun w' hb' => ?_) ?_
      rotate_left
      · (try go_simp); (try with_reducible rfl)
      try simp only [Act.put, List.setIfInBounds_toArray, List.set_cons_zero, List.set_cons_succ]
      refine gs_take (i := 3) (d := (some 20)) (v := ?_) rfl rfl (by kernel_rfl) (fun _ _ _ h => h) (by rfl) ⟨hc1, hc2⟩ (fun w' hb' => ?_) ?_
      rotate_left
      · have zz := hb'.1; (try go_simp); (try with_reducible rfl)
      try simp only [Act.put, List.setIfInBounds_toArray, List.set_cons_zero, List.set_cons_succ]
      refine gs_take (i := 4) (d := (some 21)) (v := ?_) rfl rfl (by kernel_rfl) (fun _ _ _ h => h) (by rfl) ⟨hc1, hc2⟩ (fun w' hb' => ?_) ?_
      rotate_left
      · (try go_simp); (try with_reducible rfl)
      try simp only [Act.put, List.setIfInBounds_toArray, List.set_cons_zero, List.set_cons_succ]
      refine gs_take (i := 5) (d := (some 22)) (v := ?_) rfl rfl (by kernel_rfl) (fun _ _ _ h => h) (by rfl) ⟨hc1, hc2⟩ (fun w' hb' => ?_) ?_
      rotate_left
      · (try go_simp); (try with_reducible rfl)
      try simp only [Act.put, List.setIfInBounds_toArray, List.set_cons_zero, List.set_cons_succ]
      refine gs_take (i := 6) (d := (some 23)) (v := ?_) rfl rfl (by kernel_rfl) (fun _ _ _ h => h) (by rfl) ⟨hc1, hc2⟩ (fun w' hb' => ?_) ?_
      rotate_left
      · (try go_simp); (try with_reducible rfl)
      try simp only [Act.put, List.setIfInBounds_toArray, List.set_cons_zero, List.set_cons_succ]
      refine gs_take (i := 7) (d := (some 24)) (v := ?_) rfl rfl (by kernel_rfl) (fun _ _ _ h => h) (by rfl) ⟨hc1, hc2⟩ (fun w' hb' => ?_) ?_
      rotate_left
      · have zz := hb'.2; (try go_simp); (try with_reducible rfl)
      try simp only [Act.put, List.setIfInBounds_toArray, List.set_cons_zero, List.set_cons_succ]
      refine gs_take (i := 8) (d := (some 25)) (v := ?_) rfl rfl (by kernel_rfl) (fun _ _ _ h => h) (by rfl) ⟨hc1, hc2⟩ (fun w' hb' => ?_) ?_
      rotate_left
      · (try go_simp); (try with_reducible rfl)
      try simp only [Act.put, List.setIfInBounds_toArray, List.set_cons_zero, List.set_cons_succ]
      refine gs_done (by kernel_rfl) ?_
      go_wp2_with fail
      exact ⟨⟨j + 1, by omega, by push_cast; rfl, Lib.hid HG.out.drew⟩, by simp [intOf]; omega⟩
    · obtain rfl : j = xs.length := by omega
      go_wp2_with fail
      show Z _ _
      rw [HZ.out]
      exact ⟨rfl, HG.out⟩
/-- The texts of a table of some texts. -/
def tabS (L : TxL) (s : T2.Txt) : TxL := T2.ofL L (s.take 600)
def tabL (texts : List T2.Txt) : TxL := (texts.take 60).foldl tabS []
def TabW (w : World) (texts : List T2.Txt) (e : Ending) (w' : World) : Prop := ∃ v lv, e = .returned (.tuple #[.pointer (some ⟨w.heap.size + 1, 0, none⟩), lv]) ∧ T2.Two w' w.heap.size (w.heap.size + 1) w.heap.size v (tabL texts) lv (tabL texts) ∧ Below w.heap.size w w'
theorem tabF_len : ∀ (ts : List T2.Txt) (L : TxL), (ts.foldl tabS L).length ≤ L.length + ts.length
  | [], L => Nat.le_refl _
  | t :: ts, L => by
    have h := tabF_len ts (tabS L t)
    have h2 := T2.ofL_len L (t.take 600)
    simp only [List.foldl_cons, List.length_cons]
    unfold tabS at h h2 ⊢
    omega
theorem tabL_len (texts : List T2.Txt) : (tabL texts).length ≤ 60 := by
  have h := tabF_len (texts.take 60) []
  unfold tabL
  simp at h ⊢
  omega
theorem tabL_step {texts : List T2.Txt} {j : Nat} (h : j < texts.length) : (texts.take (j + 1)).foldl tabS [] = tabS ((texts.take j).foldl tabS []) texts[j] := by
  rw [List.take_add_one, List.getElem?_eq_getElem h, List.foldl_append]; rfl
theorem tabF_short : ∀ (ts : List T2.Txt) (L : TxL), (∀ s ∈ L, s.length ≤ 600) → ∀ s ∈ ts.foldl tabS L, s.length ≤ 600
  | [], L, h, s, hs => h s hs
  | t :: ts, L, h, s, hs => by
    refine tabF_short ts (tabS L t) (fun x hx => ?_) s hs
    unfold tabS T2.ofL at hx
    split at hx
    · exact h x hx
    · rcases List.mem_append.1 hx with hx | hx
      · exact h x hx
      · rw [List.mem_singleton.1 hx, List.length_take]; omega
theorem tabL_short (texts : List T2.Txt) : ∀ s ∈ tabL texts, s.length ≤ 600 := tabF_short _ _ (fun s hs => by cases hs)
end Go.Proofs.YtoagdmglchccnaaGreatDoor
namespace Go.Proofs.YtoagdmglchccnaaGreatDoor
open Go Go.RowKit
set_option linter.unusedVariables false
set_option linter.unusedSimpArgs false
set_option maxRecDepth 100000 in
set_option maxHeartbeats 2000000 in
theorem table12_any (u : Value) (texts : List T2.Txt) (w : World) (hu : RdV w u (texts.map T2.sv)) (hz : ∀ s ∈ texts, s.length ≤ maxLen) : Calls Tryz.prog 9 #[u] w (TabW w texts) := by
  obtain ⟨ao, cap, rfl, hle, hcu⟩ := T2.rdt_open hu
  have hmax : texts.length ≤ 9223372036854775807 := by
    obtain ⟨_, _, e, h2, h3, _⟩ := hu
    rw [List.length_map] at h2
    unfold maxLen at h3
    omega
  obtain ⟨Z, hZ⟩ : ∃ Z, Z = TabW w texts := ⟨_, rfl⟩
  rw [← hZ]
  have HZ := Lib.hid hZ
  have HM := Lib.hid hmax
  have NW := Lib.hid (T2.new_any w)
  have HS := Lib.hid hz
  clear hZ hu hle hmax hz
  go_enter Tryz.func9, Tryz.ntmps9
  go_wp2_with fail
  refine NW.out.mono ?_
  rintro e w1 ⟨rfl, g1, tb1⟩
  have G1 := Lib.hid g1
  have TW1 := Lib.hid (T2.Two.fresh tb1 (lv := .slice none 0 0) (K := []) (base := w.heap.size) (World.ownsRow_nil _ _ _ _) (Nat.le_refl _) (fun k hk => by simp [Value.ownBlock] at hk))
  clear g1 tb1 NW
  go_wp2_with fail
  go_loopw [5, 6] (fun lv i wr => ∃ (j : Nat) (v : Value) (L : TxL), j ≤ texts.length ∧ j ≤ 60 ∧ i = .int .i64 (j : Int) ∧ Hid ((texts.take j).foldl tabS [] = L) ∧ Hid (T2.Two wr w.heap.size (w.heap.size + 1) w.heap.size v L lv L) ∧ Hid (Below w.heap.size w wr)) (fun _ i _ => 61 - (intOf i).toNat)
  case atStart => exact ⟨0, _, [], Nat.zero_le _, Nat.zero_le _, rfl, Lib.hid rfl, TW1, G1⟩
  case round =>
    obtain ⟨j, v, L, hj, hj60, rfl, HL, HTW, HG⟩ := hrel
    have hm := HM.out
    have hLl : L.length ≤ j := by
      have := tabF_len (texts.take j) []
      rw [HL.out, List.length_take] at this
      simp at this; omega
    by_cases hlt : j < texts.length
    · by_cases hlt6 : j < 60
      · have hlti : (j : Int) < 60 := by omega
        obtain ⟨b, off, rfl, hb, hc0⟩ := hcu.out (by omega)
        have hc := hc0 j hlt
        have HST := tabL_step hlt
        rw [HL.out] at HST
        obtain ⟨s, hs⟩ : ∃ s, s = texts[j] := ⟨_, rfl⟩
        rw [← hs] at hc HST
        unfold T2.sv at hc
        have hc : wr.cell? ⟨b, off + j, none⟩ = some (.string (str s)) := by rw [World.cell?_of_block (w := w) (HG.out.block _ hb)]; exact hc
        have hsl : s.length ≤ maxLen := by rw [hs]; exact HS.out _ (List.getElem_mem _)
        have OF := Lib.hid (T2.of_any w.heap.size (w.heap.size + 1) w.heap.size v L (s.take 600) (by rw [List.length_take]; unfold maxLen at hsl ⊢; omega) (by omega) wr HTW.out.tb HG.out.size)
        have RF := Lib.hid (fun W lv' (hbw : w.heap.size ≤ W.heap.size) (row : W.ownsRow w.heap.size 9 1 lv' L.length (L.map T2.sv)) => T2.refOf_any w.heap.size lv' L (by omega) (s.take 600) W hbw row)
        unfold tabS at HST
        have HSX := Lib.hid HST
        have szs := str_size s
        clear HST hs hc0 hcu
        by_cases hl : 600 < s.length
        · have hli : (600 : Int) < (s.length : Int) := by omega
          have e6 : (str s).extract 0 600 = str (s.take 600) := by rw [str_extract]; simp
          go_wp2_with fail
          refine OF.out.mono ?_
          rintro e w5 ⟨rfl, v5, tb5, tr5, hv5⟩
          have TW5 := Lib.hid (HTW.out.of tb5 tr5 hv5)
          have HG5 := Lib.hid (T2.below_trn HG.out tr5 (fun k hk => HTW.out.tb.own_ge k hk))
          clear tb5 tr5 hv5 OF
          go_wp2_with fail
          refine (RF.out w5 _ HG5.out.size TW5.out.row).mono ?_
          rintro e w6 ⟨lv6, rfl, row6, tr6, hv6⟩
          have TW6 := Lib.hid (TW5.out.ref row6 tr6 hv6)
          have HG6 := Lib.hid (T2.below_trn HG5.out tr6 (fun k hk => (T2.own_lt TW5.out.row k hk).1))
          clear row6 tr6 hv6
          go_wp2_with fail
          exact ⟨⟨j + 1, v5, _, by omega, by omega, by push_cast; rfl, HSX, TW6, HG6⟩, by simp [intOf]; omega⟩
        · have hli : ¬ (600 : Int) < (s.length : Int) := by omega
          have e6 : s.take 600 = s := List.take_of_length_le (by omega)
          rw [e6] at OF RF HSX
          go_wp2_with fail
          refine OF.out.mono ?_
          rintro e w5 ⟨rfl, v5, tb5, tr5, hv5⟩
          have TW5 := Lib.hid (HTW.out.of tb5 tr5 hv5)
          have HG5 := Lib.hid (T2.below_trn HG.out tr5 (fun k hk => HTW.out.tb.own_ge k hk))
          clear tb5 tr5 hv5 OF
          go_wp2_with fail
          refine (RF.out w5 _ HG5.out.size TW5.out.row).mono ?_
          rintro e w6 ⟨lv6, rfl, row6, tr6, hv6⟩
          have TW6 := Lib.hid (TW5.out.ref row6 tr6 hv6)
          have HG6 := Lib.hid (T2.below_trn HG5.out tr6 (fun k hk => (T2.own_lt TW5.out.row k hk).1))
          clear row6 tr6 hv6
          go_wp2_with fail
          exact ⟨⟨j + 1, v5, _, by omega, by omega, by push_cast; rfl, HSX, TW6, HG6⟩, by simp [intOf]; omega⟩
      · obtain rfl : j = 60 := by omega
        go_wp2_with fail
        show Z _ _
        rw [HZ.out]
        refine ⟨v, _, rfl, ?_, HG.out⟩
        have := HTW.out
        rw [← HL.out] at this
        exact this
    · obtain rfl : j = texts.length := by omega
      go_wp2_with fail
      show Z _ _
      rw [HZ.out]
      refine ⟨v, _, rfl, ?_, HG.out⟩
      have e : tabL texts = L := by
        have := HL.out
        rw [List.take_length] at this
        unfold tabL
        rw [List.take_of_length_le (by omega)]
        exact this
      rw [e]
      exact HTW.out
end Go.Proofs.YtoagdmglchccnaaGreatDoor
