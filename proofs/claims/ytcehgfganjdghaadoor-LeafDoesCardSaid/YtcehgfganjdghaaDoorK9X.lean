/- The law LeafDoes: under way. Written by wip/tools/gen9x.py. -/
import Derived.Test.YtcehgfganjdghaaDoorK9V
import Derived.Test.YtcehgfganjdghaaDoorK9W
namespace Go.Proofs.YtcehgfganjdghaaDoor
open Go Go.RowKit
set_option linter.unusedVariables false
set_option linter.unusedSimpArgs false
set_option maxRecDepth 100000
theorem it_guard : Tryd.prog.eqGuardType Tryd.prog.depth 32 = false := by kernel_rfl
theorem it_ne_op (op : Oper) (a : Act) (x y : Operand) (T' : TypeId) (z : It) (ho : op.op = .binOp .neq 32 x y T') (hx : a.eval x = .agg #[.string (str z.key), .int .i64 z.v.k, .int .i64 z.v.i, .string (str z.v.s), .int .i64 z.ver]) (hy : a.eval y = .agg #[.string (str z.key), .int .i64 z.v.k, .int .i64 z.v.i, .string (str z.v.s), .int .i64 z.ver]) (w : World) :
    (execOp a.eval op).run Tryd.prog w = .ok (.value (.bool false)) w := by
  have h := it_ne_same z w
  unfold itV at h
  simp only [execOp, ho, hx, hy]
  have g := it_guard
  go_simp
theorem refAt_no (v : Value) (l : List It) (k : List UInt8) (w : World) (h : RdI w v l) (hl : isL l = true) (hf : foundL l k = false) :
    Calls Tryd.prog 23 #[v, .string (str k)] w fun e w' => e = .returned (.int .i64 (-1)) ∧ w = w' := by
  refine (refAt_any v l k w h).mono ?_
  rintro e w' ⟨hw, i, rfl, ⟨rfl, _⟩ | ⟨j, hj, rfl, hk⟩⟩
  · exact ⟨rfl, hw⟩
  · exact absurd hk (pos_none (isL_sorted hl) (found_no hf) _ (List.getElem_mem hj))
theorem refAt_yes (v : Value) (l : List It) (k : List UInt8) (w : World) (h : RdI w v l) (hl : isL l = true) (hf : foundL l k = true) :
    Calls Tryd.prog 23 #[v, .string (str k)] w fun e w' => e = .returned (.int .i64 (posL l k : Int)) ∧ w = w' := by
  obtain ⟨hp, hpk⟩ := found_yes hf
  refine (refAt_any v l k w h).mono ?_
  rintro e w' ⟨hw, i, rfl, ⟨rfl, hn⟩ | ⟨j, hj, rfl, hk⟩⟩
  · exact absurd hpk (hn _ (List.getElem_mem hp))
  · refine ⟨?_, hw⟩
    have : j = posL l k := by
      rcases Nat.lt_trichotomy j (posL l k) with h1 | h1 | h1
      · exact absurd (hk.trans hpk.symm) (ltB_ne (sorted_at (isL_sorted hl) h1 hp))
      · exact h1
      · exact absurd (hpk.trans hk.symm) (ltB_ne (sorted_at (isL_sorted hl) h1 hj))
    rw [this]
set_option maxHeartbeats 8000000 in
theorem does_row (v : Value) (l : List It) (x : It) (k : List UInt8) (w : World) (h : RdI w v l) (hsz : SzI l) (hwf : WfI l) (hxk : x.key.length ≤ maxLen) (hxs : x.v.s.length ≤ maxLen) (hxi : I64 x.v.i) (hk : k.length ≤ maxLen) (tab : TabAt w) :
    Calls Tryd.prog 4 #[v, itV x, .string (str k)] w fun e w' => e = .returned (.bool true) ∧ Below w.heap.size w w' := by
  have FW0 := fun W (h : RdI W v l) => few9_any v l W h hsz
  obtain ⟨L, hL⟩ : ∃ L, L = fewL l := ⟨_, rfl⟩
  have hszL : SzI L := by rw [hL]; exact fewL_sz hsz
  have HS := Lib.hid hszL
  have h66 : L.length ≤ 66 := by rw [hL]; exact fewL_len l
  simp only [← hL] at FW0
  have FW := Lib.hid FW0
  obtain ⟨X, hX⟩ : ∃ X, X = oneI x := ⟨_, rfl⟩
  have hXk : X.key.length ≤ maxLen := by rw [hX]; unfold oneI maxLen; simp; omega
  have hXs : X.v.s.length ≤ maxLen := by rw [hX]; unfold oneI maxLen; simp; omega
  have ONE0 := fun W => one9_any x W hxk hxs
  rw [← hX] at ONE0
  unfold itV at ONE0 ⊢
  have ONE := Lib.hid ONE0
  obtain ⟨K9, hK9⟩ : ∃ K9, K9 = k.take 60 := ⟨_, rfl⟩
  have SH0 := fun W => short_any k W hk
  rw [← hK9] at SH0
  have SH := Lib.hid SH0
  obtain ⟨av, cv, rfl, kv1, kv2⟩ := slice_of_rd h
  have q0 := heap_alloc_new w (.cells #[.string (str x.key), .int .i64 x.v.k, .int .i64 x.v.i, .string (str x.v.s), .int .i64 x.ver] 32)
  have B0 := (Below.refl w.heap.size w).alloc (Nat.le_refl _) (.cells #[.string (str x.key), .int .i64 x.v.k, .int .i64 x.v.i, .string (str x.v.s), .int .i64 x.ver] 32)
  have HR0 := Lib.hid (h.below B0 (Nat.le_refl _))
  have z0 : (w.alloc (.cells #[.string (str x.key), .int .i64 x.v.k, .int .i64 x.v.i, .string (str x.v.s), .int .i64 x.ver] 32)).heap.size = w.heap.size + 1 := by rw [World.size_alloc]
  have Z0 := Lib.hid z0
  -- what is known of the lists
  obtain ⟨G0, hG0⟩ : ∃ G, G = gI L K9 := ⟨_, rfl⟩
  obtain ⟨b0, hb0⟩ : ∃ b, b = gB L K9 := ⟨_, rfl⟩
  have GL1 := fun ao cap W t h => get_of L K9 hszL G0 b0 hG0.symm hb0.symm ao cap W t h
  have PU1 := fun ao cap W t h => lput_any (.slice ao L.length cap) L X W t h hszL hXk hXs
  have DE1 := fun ao cap W t h => ldel_any (.slice ao L.length cap) L K9 W t h hszL
  have hbb : (b0 != b0) = false := by simp
  have NX := fun W => it_ne_same X W
  have NG := fun W => it_ne_same G0 W
  unfold itV at PU1 NX NG
  have HX2 := Lib.hid (And.intro hXk hXs)
  have HG := Lib.hid hG0
  have HBB := Lib.hid hb0
  clear hL h hsz hwf FW0 hX ONE0 SH0 hK9 hxi z0 hG0 hb0 hszL
  go_enter Tryd.func4, Tryd.ntmps4
  go_wp2_with fail
  refine t_start 6 (by kernel_rfl) ?_
  refine t_take (i := 0) (d := (some 16)) (v := ?_) rfl rfl (by kernel_rfl) (fun _ _ _ h => h) (by rfl) (fun w' hb' => ?_) ?_
  rotate_left
  · (try go_simp); (try with_reducible rfl)
  try simp only [Act.put, List.setIfInBounds_toArray, List.set_cons_zero, List.set_cons_succ]
  refine t_take (i := 2) (d := (some 18)) (v := ?_) rfl rfl (by kernel_rfl) (fun _ _ _ h => h) (by rfl) (fun w' hb' => ?_) ?_
  rotate_left
  · obtain ⟨d0, d1, d2, d3, d4, dz⟩ := block_cells5 ((hb'.block _ (lt_of_block q0)).trans q0); (try go_simp); (try with_reducible rfl)
  try simp only [Act.put, List.setIfInBounds_toArray, List.set_cons_zero, List.set_cons_succ]
  refine t_take (i := 4) (d := (some 20)) (v := ?_) rfl rfl (by kernel_rfl) (fun _ _ _ h => h) (by rfl) (fun w' hb' => ?_) ?_
  rotate_left
  · (try go_simp); (try with_reducible rfl)
  try simp only [Act.put, List.setIfInBounds_toArray, List.set_cons_zero, List.set_cons_succ]
  refine t_run (i := 1) rfl (by kernel_rfl) (by kernel_rfl) (by rfl) (fun K hK => ?_)
  go_simp
  refine (FW.out _ (HR0.out.below (Below.refl _ _).drew (Nat.le_refl _))).mono ?_
  rintro e w3 ⟨v3, rfl, o3, b3⟩
  obtain ⟨a3, c3, rfl, k3, k4⟩ := slice_of_rd (OwnI.rd (w := w) o3)
  have q3 := (b3.block _ (lt_of_block q0)).trans q0
  refine hK _ _ ⟨b3, ?_⟩
  clear hK K
  try simp only [Act.put, List.setIfInBounds_toArray, List.set_cons_zero, List.set_cons_succ]
  refine t_run (i := 3) rfl (by kernel_rfl) (by kernel_rfl) (by rfl) (fun K hK => ?_)
  go_simp
  refine (ONE.out _).mono ?_
  rintro e w4 ⟨rfl, b4⟩
  have q4 := (b4.block _ (lt_of_block q3)).trans q3
  refine hK _ _ ⟨b4, ?_⟩
  clear hK K
  try simp only [Act.put, List.setIfInBounds_toArray, List.set_cons_zero, List.set_cons_succ]
  refine t_run (i := 5) rfl (by kernel_rfl) (by kernel_rfl) (by rfl) (fun K hK => ?_)
  go_simp
  refine (SH.out _).mono ?_
  rintro e w4' ⟨rfl, rfl⟩
  refine hK _ _ ⟨Below.refl _ _, ?_⟩
  clear hK K
  try simp only [Act.put, List.setIfInBounds_toArray, List.set_cons_zero, List.set_cons_succ]
  refine t_into ?_
  refine t_tail (i := 6) rfl (by kernel_rfl) (by kernel_rfl) (by rfl) (fun K hK => ?_)
  go_simp
  refine hK _ _ ?_
  clear hK K
  try simp only [Act.put, List.setIfInBounds_toArray, List.set_cons_zero, List.set_cons_succ]
  refine t_tail (i := 7) rfl (by kernel_rfl) (by kernel_rfl) (by rfl) (fun K hK => ?_)
  obtain ⟨d0, d1, d2, d3, d4, dz⟩ := block_cells5 q4
  have hl4 := lt_of_block q4
  go_simp
  refine hK _ _ ?_
  clear hK K d0 d1 d2 d3 d4 dz hl4
  have x5 := put5 (.string (str X.key)) (.int .i64 X.v.k) (.int .i64 X.v.i) (.string (str X.v.s)) (.int .i64 X.ver) q4
  obtain ⟨w5, hw5⟩ : ∃ W, W = (((((w4.setCell ⟨w.heap.size, 0, none⟩ (.string (str X.key))).setCell ⟨w.heap.size, 1, none⟩ (.int .i64 X.v.k)).setCell ⟨w.heap.size, 2, none⟩ (.int .i64 X.v.i)).setCell ⟨w.heap.size, 3, none⟩ (.string (str X.v.s))).setCell ⟨w.heap.size, 4, none⟩ (.int .i64 X.ver)) := ⟨_, rfl⟩
  rw [← hw5] at x5
  change wpO _ _ _ _ _ _ _ (((((w4.setCell ⟨w.heap.size, 0, none⟩ (.string (str X.key))).setCell ⟨w.heap.size, 1, none⟩ (.int .i64 X.v.k)).setCell ⟨w.heap.size, 2, none⟩ (.int .i64 X.v.i)).setCell ⟨w.heap.size, 3, none⟩ (.string (str X.v.s))).setCell ⟨w.heap.size, 4, none⟩ (.int .i64 X.ver))
  rw [← hw5]
  have HW5 := Lib.hid hw5
  clear hw5
  try simp only [Act.put, List.setIfInBounds_toArray, List.set_cons_zero, List.set_cons_succ]
  refine t_tail (i := 8) rfl (by kernel_rfl) (by kernel_rfl) (by rfl) (fun K hK => ?_)
  go_simp
  refine hK _ _ ?_
  clear hK K
  try simp only [Act.put, List.setIfInBounds_toArray, List.set_cons_zero, List.set_cons_succ]
  refine t_over (by kernel_rfl) ?_

  have b35 : Below w.heap.size w w4 := chain (chain (Below.drew B0) b3) b4
  have B05 := Lib.hid (show Below w.heap.size w w5 by rw [HW5.out]; exact put5_below _ _ _ _ _ b35 (Nat.le_refl _))
  have own5 : w5.ownsRow (w.heap.size + 1) 32 5 (.slice a3 L.length c3) L.length (L.flatMap itC) := by
    have o4 := own_keep o3 b4
    rw [HW5.out]
    exact own_put5 _ _ _ _ _ (by have e := Z0.out; have h := o4; rw [show (w.alloc (.cells #[.string (str x.key), .int .i64 x.v.k, .int .i64 x.v.i, .string (str x.v.s), .int .i64 x.ver] 32)).drew.heap.size = (w.alloc (.cells #[.string (str x.key), .int .i64 x.v.k, .int .i64 x.v.i, .string (str x.v.s), .int .i64 x.ver] 32)).heap.size from rfl, e] at h; exact h) (by omega)
  have RDL := Lib.hid (OwnI.rd (w := w) own5)
  have T5 := Lib.hid (tab.below B05.out)
  have B5 := Below.refl w5.heap.size w5
  obtain ⟨i0, hi, hz0, hz1, hz2⟩ := info_parts item_info
  have LIT := Lib.hid (World.ownsRow_lit (e := 32) (size := 5) w5 #[] 0 (Nat.le_refl _) (by decide) rfl)
  have BL := (Below.refl w5.heap.size w5).alloc (Nat.le_refl _) (.cells #[] 32)
  clear o3 q0 q3 q4 b3 b4 b35 own5 HR0 FW ONE SH
  go_wp2_with (first
    | (at_builtin; refine wpList_app_rdk itC_len (by decide) w5 rfl (.tmp 22) (.tmp 23) 22 rfl w5.heap.size 32 i0 (.agg #[.string ⟨#[]⟩, .int .i64 0, .int .i64 0, .string ⟨#[]⟩, .int .i64 0]) 56 Tryd.underlying22 hi hz0 hz1 hz2 rfl (.slice (some ⟨w5.heap.size, 0, none⟩) 0 0) [] rfl LIT.out (.slice a3 L.length c3) L rfl (RDL.out.below BL (Nat.le_refl _)) itC_one (by unfold maxLen; simp; omega) (by simp; omega) (Nat.le_refl _) BL ?_; intro vr w6 hown6 b6 hq6; clear hq6; rw [List.nil_append] at hown6; have OW6 := Lib.hid hown6; clear hown6)
    | (at_builtin; refine wpList_app1k itC_len (by decide) w5 rfl (.tmp 24) (.tmp 26) 22 rfl w5.heap.size 32 i0 (.agg #[.string ⟨#[]⟩, .int .i64 0, .int .i64 0, .string ⟨#[]⟩, .int .i64 0]) 56 Tryd.underlying22 hi hz0 hz1 hz2 rfl _ L rfl OW6.out _ (⟨[], ⟨0, 0, []⟩, 77⟩ : It) _ rfl rfl itC_one (by unfold maxLen; omega) (by omega) (Nat.le_refl _) b6 ?_; intro vr7 w7 hown7 b7 hq7; clear hq7; obtain ⟨gr, cr, rfl, kr1, kr2⟩ := slice_of_own hown7 (by simp); have kr3 : L.length + 1 ≤ cr := (by simpa using kr1); have kr4 : cr ≤ 9223372036854775807 := (by unfold maxLen at kr2; exact kr2); have klen : (L ++ [(⟨[], ⟨0, 0, []⟩, 77⟩ : It)]).length = L.length + 1 := (by simp); have hrr := OwnI.rd (w := w) hown7; have OW7 := Lib.hid hown7; clear hown7 kr1))
  have x7 := (b7.block _ (lt_of_block x5)).trans x5
  have T5 := Lib.hid (T5.out.below b7)
  have RDL := Lib.hid (RDL.out.below b7 (Nat.le_refl _))
  have B05 := Lib.hid (chain B05.out b7)
  have B7 := Below.refl w7.heap.size w7
  have RIN := Lib.hid (show RdI w7 (.slice (some ⟨gr, 0, none⟩) L.length cr) L by
    have h := RdK.short itC_len hrr L.length (by rw [klen]; omega)
    rw [List.take_left] at h; exact h)
  have hgr : gr < w7.heap.size := (OW7.out.lt gr rfl).2
  have RV := Lib.hid (show w7.cell? ⟨gr, L.length * 5 + 4, none⟩ = some (.int .i64 77) by
    obtain ⟨b', off', e, _, _, _, _, _, h⟩ := rdi_cells hrr L.length (by rw [klen]; omega)
    cases e
    rw [Nat.zero_add] at h
    rw [h]; simp)
  have GL := Lib.hid (GL1 (some ⟨gr, 0, none⟩) cr)
  have PU0 := PU1 (some ⟨gr, 0, none⟩) cr
  have DE0 := DE1 (some ⟨gr, 0, none⟩) cr
  have IS0 := fun W t h => refIs9_any (.slice a3 L.length c3) L W t h HS.out
  clear b7 x5 b6 hrr klen OW7 OW6 GL1 PU1 DE1 B5 LIT BL
  cases hl : isL L with
  | false =>
    obtain rfl : zI = G0 := by rw [HG.out]; unfold gI; rw [hl]; rfl
    obtain rfl : false = b0 := by rw [HBB.out]; unfold gB; rw [hl]; rfl
    have PU := Lib.hid (show ∀ W, TabAt W → RdI W (.slice (some ⟨gr, 0, none⟩) L.length cr) L → Calls Tryd.prog 19 #[.slice (some ⟨gr, 0, none⟩) L.length cr, .agg #[.string (str X.key), .int .i64 X.v.k, .int .i64 X.v.i, .string (str X.v.s), .int .i64 X.ver]] W (OwnIE W [] 1) by
      have e1 : putE L X = 1 := by unfold putE; rw [hl]; rfl
      have e2 : putR L X = [] := by unfold putR; rw [e1]; rfl
      rw [e1, e2] at PU0; exact PU0)
    have DE := Lib.hid (show ∀ W, TabAt W → RdI W (.slice (some ⟨gr, 0, none⟩) L.length cr) L → Calls Tryd.prog 20 #[.slice (some ⟨gr, 0, none⟩) L.length cr, .string (str K9)] W (OwnIE W [] 1) by
      have e1 : delE L K9 = 1 := by unfold delE; rw [hl]; rfl
      have e2 : delR L K9 = [] := by unfold delR; rw [e1]; rfl
      rw [e1, e2] at DE0; exact DE0)
    simp only [hl] at IS0
    have IS := Lib.hid IS0
    have NZ := fun W => (show (binOp .eql 32 (.agg #[.string (str zI.key), .int .i64 zI.v.k, .int .i64 zI.v.i, .string (str zI.v.s), .int .i64 zI.ver]) (.agg #[.string ⟨#[]⟩, .int .i64 0, .int .i64 0, .string ⟨#[]⟩, .int .i64 0])).run Tryd.prog W = .ok (.bool true) W from it_eq_same zI W)
    clear hl IS0 PU0 DE0 NG
    as_aux_lemma =>
      go_wp2_with fail
      refine (GL.out _ (T5.out.below B7) (RIN.out.below B7 (Nat.le_refl _))).mono ?_
      rintro e w8 ⟨rfl, g⟩
      have x8 := (g.block _ (lt_of_block x7)).trans x7
      have B8 := chain B7 g
      clear g
      have a9 := (Below.refl w8.heap.size w8).alloc (Nat.le_refl _) (.cells #[.string (str zI.key), .int .i64 zI.v.k, .int .i64 zI.v.i, .string (str zI.v.s), .int .i64 zI.ver] 32)
      have x9 := (a9.block _ (lt_of_block x8)).trans x8
      have s9 := heap_alloc_new w8 (.cells #[.string (str zI.key), .int .i64 zI.v.k, .int .i64 zI.v.i, .string (str zI.v.s), .int .i64 zI.ver] 32)
      have B9 := chain B8 a9
      obtain ⟨xc0, xc1, xc2, xc3, xc4, xcz⟩ := block_cells5 x9
      go_wp2_with fail
      refine (PU.out _ (T5.out.below B9) (RIN.out.below B9 (Nat.le_refl _))).mono ?_
      rintro e w10 ⟨vP, rfl, oP, g⟩
      have x10 := (g.block _ (lt_of_block x9)).trans x9
      have s10 := (g.block _ (lt_of_block s9)).trans s9
      have B10 := chain B9 g
      clear g
      obtain ⟨aP, cP, rfl, kP1, kP2⟩ := slice_of_rd (OwnI.rd (w := w) oP)
      clear oP
      go_wp2_with fail
      refine (DE.out _ (T5.out.below B10) (RIN.out.below B10 (Nat.le_refl _))).mono ?_
      rintro e w11 ⟨vD, rfl, oD, g⟩
      have x11 := (g.block _ (lt_of_block x10)).trans x10
      have s11 := (g.block _ (lt_of_block s10)).trans s10
      have B11 := chain B10 g
      clear g
      obtain ⟨aD, cD, rfl, kD1, kD2⟩ := slice_of_rd (OwnI.rd (w := w) oD)
      clear oD
      have SM := refSame_yes (.slice (some ⟨gr, 0, none⟩) L.length cr) (.slice a3 L.length c3) L w11 (RIN.out.below B11 (Nat.le_refl _)) (RDL.out.below B11 (Nat.le_refl _)) (by omega)
      go_wp2_with fail
      refine SM.mono ?_
      rintro e w12 ⟨rfl, m12, hw12⟩
      have g : Below w11.heap.size w11 w12 := by rw [hw12]; exact below_drewN (Below.refl _ _)
      have x12 := (g.block _ (lt_of_block x11)).trans x11
      have s12 := (g.block _ (lt_of_block s11)).trans s11
      have B12 := chain B11 g
      clear g hw12 SM
      have rv := (B12.cell (p := ⟨gr, L.length * 5 + 4, none⟩) hgr).trans RV.out
      go_wp2_with fail
      refine (IS.out _ (T5.out.below B12) (RDL.out.below B12 (Nat.le_refl _))).mono ?_
      rintro e w13 ⟨rfl, g⟩
      have x13 := (g.block _ (lt_of_block x12)).trans x12
      have s13 := (g.block _ (lt_of_block s12)).trans s12
      have B13 := chain B12 g
      clear g
      obtain ⟨sc0, sc1, sc2, sc3, sc4, scz⟩ := block_cells5 s13
      have AW := awake9_any.at _ (T5.out.below B13)
      go_wp2_with fail
      refine (AW).mono ?_
      rintro e w14 ⟨rfl, g⟩
      have x14 := (g.block _ (lt_of_block x13)).trans x13
      have s14 := (g.block _ (lt_of_block s13)).trans s13
      have B14 := chain B13 g
      clear g
      go_wp2_with fail
      go_ret
      exact ⟨rfl, chain B05.out B14⟩
  | true =>
    simp only [hl] at IS0
    have IS := Lib.hid IS0
    have h64 := isL_len hl
    cases hf : foundL L K9 with
    | true =>
      have hat := (found_yes hf)
      obtain ⟨p, hpp⟩ : ∃ p, p = posL L K9 := ⟨_, rfl⟩
      have hpl : p < L.length := by rw [hpp]; exact hat.1
      have hG : G0 = L[posL L K9]'hat.1 := by rw [HG.out]; unfold gI; rw [hl, pos_at (isL_sorted hl) hat.1 hat.2]; rfl
      have HXP := Lib.hid (show ∀ h : p < L.length, L[p] = G0 by intro h; subst hpp; exact hG.symm)
      obtain rfl : true = b0 := by rw [HBB.out]; unfold gB; rw [hl, pos_at (isL_sorted hl) hat.1 hat.2]; rfl
      have d1 : delE L K9 = 0 := by unfold delE; rw [hl, hf]; rfl
      have DE := Lib.hid (show ∀ W, TabAt W → RdI W (.slice (some ⟨gr, 0, none⟩) L.length cr) L → Calls Tryd.prog 20 #[.slice (some ⟨gr, 0, none⟩) L.length cr, .string (str K9)] W (OwnIE W (withoutL L K9) 0) by
        have e2 : delR L K9 = withoutL L K9 := by unfold delR; rw [d1]; rfl
        rw [d1, e2] at DE0; exact DE0)
      have DL := Lib.hid (show (withoutL L K9).length ≤ 100 by have := without_len d1; omega)
      have RWO := Lib.hid (fun W h => refWithout_any (.slice a3 L.length c3) L K9 W h h66)
      have AK0 := fun W h => refAt_yes (.slice a3 L.length c3) L K9 W h hl hf
      rw [← hpp] at AK0
      have AK := Lib.hid AK0
      have hpn : decide ((p : Int) < 0) = false := by simp
      clear hf hat IS0 DE0 NG hG d1 AK0 hpp
      cases hmx : mayI X with
      | false =>
        have PU := Lib.hid (show ∀ W, TabAt W → RdI W (.slice (some ⟨gr, 0, none⟩) L.length cr) L → Calls Tryd.prog 19 #[.slice (some ⟨gr, 0, none⟩) L.length cr, .agg #[.string (str X.key), .int .i64 X.v.k, .int .i64 X.v.i, .string (str X.v.s), .int .i64 X.ver]] W (OwnIE W [] 1) by
          have e1 : putE L X = 1 := by unfold putE; rw [hl, hmx]; rfl
          have e2 : putR L X = [] := by unfold putR; rw [e1]; rfl
          rw [e1, e2] at PU0; exact PU0)
        have HMX := Lib.hid hmx
        clear hl hmx PU0
        as_aux_lemma =>
          go_wp2_with fail
          refine (GL.out _ (T5.out.below B7) (RIN.out.below B7 (Nat.le_refl _))).mono ?_
          rintro e w8 ⟨rfl, g⟩
          have x8 := (g.block _ (lt_of_block x7)).trans x7
          have B8 := chain B7 g
          clear g
          have a9 := (Below.refl w8.heap.size w8).alloc (Nat.le_refl _) (.cells #[.string (str G0.key), .int .i64 G0.v.k, .int .i64 G0.v.i, .string (str G0.v.s), .int .i64 G0.ver] 32)
          have x9 := (a9.block _ (lt_of_block x8)).trans x8
          have s9 := heap_alloc_new w8 (.cells #[.string (str G0.key), .int .i64 G0.v.k, .int .i64 G0.v.i, .string (str G0.v.s), .int .i64 G0.ver] 32)
          have B9 := chain B8 a9
          obtain ⟨xc0, xc1, xc2, xc3, xc4, xcz⟩ := block_cells5 x9
          go_wp2_with fail
          refine (PU.out _ (T5.out.below B9) (RIN.out.below B9 (Nat.le_refl _))).mono ?_
          rintro e w10 ⟨vP, rfl, oP, g⟩
          have x10 := (g.block _ (lt_of_block x9)).trans x9
          have s10 := (g.block _ (lt_of_block s9)).trans s9
          have B10 := chain B9 g
          clear g
          have hrP := OwnI.rd (w := w) oP
          obtain ⟨aP, cP, rfl, kP1, kP2⟩ := slice_of_rd hrP
          have RDP := Lib.hid hrP
          clear oP hrP
          have P10 := Below.refl w10.heap.size w10
          go_wp2_with fail
          refine (DE.out _ (T5.out.below B10) (RIN.out.below B10 (Nat.le_refl _))).mono ?_
          rintro e w11 ⟨vD, rfl, oD, g⟩
          have x11 := (g.block _ (lt_of_block x10)).trans x10
          have s11 := (g.block _ (lt_of_block s10)).trans s10
          have B11 := chain B10 g
          skip
          have P11 := chain P10 g
          clear g
          have hrD := OwnI.rd (w := w) oD
          obtain ⟨aD, cD, rfl, kD1, kD2⟩ := slice_of_rd hrD
          have RDD := Lib.hid hrD
          clear oD hrD
          have Q11 := Below.refl w11.heap.size w11
          have SM := refSame_yes (.slice (some ⟨gr, 0, none⟩) L.length cr) (.slice a3 L.length c3) L w11 (RIN.out.below B11 (Nat.le_refl _)) (RDL.out.below B11 (Nat.le_refl _)) (by omega)
          go_wp2_with fail
          refine SM.mono ?_
          rintro e w12 ⟨rfl, m12, hw12⟩
          have g : Below w11.heap.size w11 w12 := by rw [hw12]; exact below_drewN (Below.refl _ _)
          have x12 := (g.block _ (lt_of_block x11)).trans x11
          have s12 := (g.block _ (lt_of_block s11)).trans s11
          have B12 := chain B11 g
          have P12 := chain P11 g
          have Q12 := chain Q11 g
          clear g hw12 SM
          have rv := (B12.cell (p := ⟨gr, L.length * 5 + 4, none⟩) hgr).trans RV.out
          go_wp2_with fail
          refine (IS.out _ (T5.out.below B12) (RDL.out.below B12 (Nat.le_refl _))).mono ?_
          rintro e w13 ⟨rfl, g⟩
          have x13 := (g.block _ (lt_of_block x12)).trans x12
          have s13 := (g.block _ (lt_of_block s12)).trans s12
          have B13 := chain B12 g
          skip
          have P13 := chain P12 g
          have Q13 := chain Q12 g
          clear g
          obtain ⟨sc0, sc1, sc2, sc3, sc4, scz⟩ := block_cells5 s13
          go_wp2_with fail
          refine ((AK.out _ (RDL.out.below B13 (Nat.le_refl _)))).mono ?_
          rintro e w' ⟨rfl, rfl⟩
          have hrd := (RDL.out.below B13 (Nat.le_refl _))
          have RLH := Lib.hid hrd
          obtain ⟨bl, ofl, rfl, hbl, c0, c1, c2, c3, c4⟩ := rdi_cells hrd p hpl
          rw [HXP.out hpl] at c0 c1 c2 c3 c4
          clear hrd
          go_wp2_with fail
          refine g_start (by kernel_rfl) ?_
          refine g_take (i := 0) (d := (some 117)) (v := ?_) rfl rfl (by kernel_rfl) (fun _ _ _ h => h) (by rfl) (fun w' hb' => ?_) ?_
          rotate_left
          · obtain ⟨sc0, sc1, sc2, sc3, sc4, scz⟩ := block_cells5 ((hb'.block _ (lt_of_block s13)).trans s13); (try go_simp); (try with_reducible rfl)
          try simp only [Act.put, List.setIfInBounds_toArray, List.set_cons_zero, List.set_cons_succ]
          refine g_take (i := 1) (d := (some 118)) (v := ?_) rfl rfl (by kernel_rfl) (fun _ _ _ h => h) (by rfl) (fun w' hb' => ?_) ?_
          rotate_left
          · (try go_simp); (try with_reducible rfl)
          try simp only [Act.put, List.setIfInBounds_toArray, List.set_cons_zero, List.set_cons_succ]
          refine g_take (i := 2) (d := (some 119)) (v := ?_) rfl rfl (by kernel_rfl) (fun _ _ _ h => h) (by rfl) (fun w' hb' => ?_) ?_
          rotate_left
          · (try go_simp); (try with_reducible rfl)
          try simp only [Act.put, List.setIfInBounds_toArray, List.set_cons_zero, List.set_cons_succ]
          refine g_take (i := 3) (d := (some 120)) (v := ?_) rfl rfl (by kernel_rfl) (fun _ _ _ h => h) (by rfl) (fun w' hb' => ?_) ?_
          rotate_left
          · (try go_simp); (try with_reducible rfl)
          try simp only [Act.put, List.setIfInBounds_toArray, List.set_cons_zero, List.set_cons_succ]
          refine g_take (i := 4) (d := (some 121)) (v := ?_) rfl rfl (by kernel_rfl) (fun _ _ _ h => h) (by rfl) (fun w' hb' => ?_) ?_
          rotate_left
          · have c0 := (hb'.cell (p := ⟨bl, ofl + p * 5, none⟩) hbl).trans c0; have c1 := (hb'.cell (p := ⟨bl, ofl + p * 5 + 1, none⟩) hbl).trans c1; have c2 := (hb'.cell (p := ⟨bl, ofl + p * 5 + 2, none⟩) hbl).trans c2; have c3 := (hb'.cell (p := ⟨bl, ofl + p * 5 + 3, none⟩) hbl).trans c3; have c4 := (hb'.cell (p := ⟨bl, ofl + p * 5 + 4, none⟩) hbl).trans c4; (try go_simp); (try with_reducible rfl)
          try simp only [Act.put, List.setIfInBounds_toArray, List.set_cons_zero, List.set_cons_succ]
          refine g_take (i := 5) (d := (some 122)) (v := ?_) rfl rfl (by kernel_rfl) (fun _ _ _ h => h) (by rfl) (fun w' hb' => ?_) ?_
          rotate_left
          · (refine it_ne_op _ _ (.tmp 117) (.tmp 121) 32 G0 ?_ ?_ ?_ w' <;> rfl); (try go_simp); (try with_reducible rfl)
          try simp only [Act.put, List.setIfInBounds_toArray, List.set_cons_zero, List.set_cons_succ]
          refine g_take (i := 6) (d := (some 123)) (v := ?_) rfl rfl (by kernel_rfl) (fun _ _ _ h => h) (by rfl) (fun w' hb' => ?_) ?_
          rotate_left
          · (try go_simp); (try with_reducible rfl)
          try simp only [Act.put, List.setIfInBounds_toArray, List.set_cons_zero, List.set_cons_succ]
          refine g_take (i := 7) (d := (some 124)) (v := ?_) rfl rfl (by kernel_rfl) (fun _ _ _ h => h) (by rfl) (fun w' hb' => ?_) ?_
          rotate_left
          · (try go_simp); (try with_reducible rfl)
          try simp only [Act.put, List.setIfInBounds_toArray, List.set_cons_zero, List.set_cons_succ]
          refine g_take (i := 8) (d := (some 125)) (v := ?_) rfl rfl (by kernel_rfl) (fun _ _ _ h => h) (by rfl) (fun w' hb' => ?_) ?_
          rotate_left
          · (try go_simp); (try with_reducible rfl)
          try simp only [Act.put, List.setIfInBounds_toArray, List.set_cons_zero, List.set_cons_succ]
          refine g_take (i := 9) (d := (some 126)) (v := ?_) rfl rfl (by kernel_rfl) (fun _ _ _ h => h) (by rfl) (fun w' hb' => ?_) ?_
          rotate_left
          · (try go_simp); (try with_reducible rfl)
          try simp only [Act.put, List.setIfInBounds_toArray, List.set_cons_zero, List.set_cons_succ]
          refine g_take (i := 10) (d := (some 127)) (v := ?_) rfl rfl (by kernel_rfl) (fun _ _ _ h => h) (by rfl) (fun w' hb' => ?_) ?_
          rotate_left
          · (try go_simp); (try with_reducible rfl)
          try simp only [Act.put, List.setIfInBounds_toArray, List.set_cons_zero, List.set_cons_succ]
          refine g_take (i := 11) (d := (some 128)) (v := ?_) rfl rfl (by kernel_rfl) (fun _ _ _ h => h) (by rfl) (fun w' hb' => ?_) ?_
          rotate_left
          · (try go_simp); (try with_reducible rfl)
          try simp only [Act.put, List.setIfInBounds_toArray, List.set_cons_zero, List.set_cons_succ]
          refine g_take (i := 12) (d := (some 129)) (v := ?_) rfl rfl (by kernel_rfl) (fun _ _ _ h => h) (by rfl) (fun w' hb' => ?_) ?_
          rotate_left
          · (try go_simp); (try with_reducible rfl)
          try simp only [Act.put, List.setIfInBounds_toArray, List.set_cons_zero, List.set_cons_succ]
          refine g_take (i := 13) (d := (some 130)) (v := ?_) rfl rfl (by kernel_rfl) (fun _ _ _ h => h) (by rfl) (fun w' hb' => ?_) ?_
          rotate_left
          · (try go_simp); (try with_reducible rfl)
          try simp only [Act.put, List.setIfInBounds_toArray, List.set_cons_zero, List.set_cons_succ]
          refine g_run (i := 14) rfl (by kernel_rfl) (by rfl) (fun K hK => ?_)
          go_simp; refine (RWO.out _ (RLH.out.below (Below.drew (Below.refl _ _)) (Nat.le_refl _))).mono ?_; rintro e wq ⟨vq, rfl, oq, gq⟩; have gq2 : Below w13.heap.size w13 wq := Below.trans (Below.drew (Below.refl _ _)) gq; refine hK _ _ ⟨gq, ?_⟩; clear hK K
          try simp only [Act.put, List.setIfInBounds_toArray, List.set_cons_zero, List.set_cons_succ]
          refine g_run (i := 15) rfl (by kernel_rfl) (by rfl) (fun K hK => ?_)
          go_simp; refine (refSame_yes (.slice aD (withoutL L K9).length cD) vq (withoutL L K9) wq (RDD.out.below (chain Q13 gq2) (Nat.le_refl _)) (OwnI.rd (w := w) oq) DL.out).mono ?_; rintro e w14 ⟨rfl, m14, hw14⟩; refine hK _ _ ⟨by rw [hw14]; exact below_drewN (Below.refl _ _), ?_⟩; clear hK K
          try simp only [Act.put, List.setIfInBounds_toArray, List.set_cons_zero, List.set_cons_succ]
          refine g_take (i := 16) (d := (some 133)) (v := ?_) rfl rfl (by kernel_rfl) (fun _ _ _ h => h) (by rfl) (fun w' hb' => ?_) ?_
          rotate_left
          · (try go_simp); (try with_reducible rfl)
          try simp only [Act.put, List.setIfInBounds_toArray, List.set_cons_zero, List.set_cons_succ]
          refine g_take (i := 17) (d := (some 134)) (v := ?_) rfl rfl (by kernel_rfl) (fun _ _ _ h => h) (by rfl) (fun w' hb' => ?_) ?_
          rotate_left
          · (try go_simp); (try with_reducible rfl)
          try simp only [Act.put, List.setIfInBounds_toArray, List.set_cons_zero, List.set_cons_succ]
          refine g_take (i := 18) (d := (some 135)) (v := ?_) rfl rfl (by kernel_rfl) (fun _ _ _ h => h) (by rfl) (fun w' hb' => ?_) ?_
          rotate_left
          · (try go_simp); (try with_reducible rfl)
          try simp only [Act.put, List.setIfInBounds_toArray, List.set_cons_zero, List.set_cons_succ]
          refine g_take (i := 19) (d := (some 136)) (v := ?_) rfl rfl (by kernel_rfl) (fun _ _ _ h => h) (by rfl) (fun w' hb' => ?_) ?_
          rotate_left
          · (try go_simp); (try with_reducible rfl)
          try simp only [Act.put, List.setIfInBounds_toArray, List.set_cons_zero, List.set_cons_succ]
          refine g_take (i := 20) (d := (some 137)) (v := ?_) rfl rfl (by kernel_rfl) (fun _ _ _ h => h) (by rfl) (fun w' hb' => ?_) ?_
          rotate_left
          · (try go_simp); (try with_reducible rfl)
          try simp only [Act.put, List.setIfInBounds_toArray, List.set_cons_zero, List.set_cons_succ]
          refine g_take (i := 21) (d := (some 138)) (v := ?_) rfl rfl (by kernel_rfl) (fun _ _ _ h => h) (by rfl) (fun w' hb' => ?_) ?_
          rotate_left
          · (try go_simp); (try with_reducible rfl)
          try simp only [Act.put, List.setIfInBounds_toArray, List.set_cons_zero, List.set_cons_succ]
          refine g_done (by kernel_rfl) ?_
          have g : Below w13.heap.size w13 w14 := by rw [hw14]; exact below_drewN gq2
          have x14 := (g.block _ (lt_of_block x13)).trans x13
          have s14 := (g.block _ (lt_of_block s13)).trans s13
          have B14 := chain B13 g
          have P14 := chain P13 g
          have Q14 := chain Q13 g
          clear g hw14 oq gq gq2 c0 c1 c2 c3 c4
          obtain ⟨xc0, xc1, xc2, xc3, xc4, xcz⟩ := block_cells5 x14
          have MYR := (refLeafMay_any X HX2.out.1 HX2.out.2).at w14 (T5.out.below B14)
          unfold itV at MYR
          rw [HMX.out] at MYR
          go_wp2_with fail
          refine (MYR).mono ?_
          rintro e w15 ⟨rfl, g⟩
          have x15 := (g.block _ (lt_of_block x14)).trans x14
          have s15 := (g.block _ (lt_of_block s14)).trans s14
          have B15 := chain B14 g
          skip
          have P15 := chain P14 g
          have Q15 := chain Q14 g
          clear g
          clear MYR
          obtain ⟨xc0, xc1, xc2, xc3, xc4, xcz⟩ := block_cells5 x15
          have AW := awake9_any.at _ (T5.out.below B15)
          go_wp2_with fail
          refine (AW).mono ?_
          rintro e w16 ⟨rfl, g⟩
          have x16 := (g.block _ (lt_of_block x15)).trans x15
          have s16 := (g.block _ (lt_of_block s15)).trans s15
          have B16 := chain B15 g
          clear g
          go_wp2_with fail
          go_ret
          exact ⟨rfl, chain B05.out B16⟩
      | true =>
        have HMX := Lib.hid hmx
        cases hfx : foundL L X.key with
        | true =>
          have e1 : putE L X = 0 := by unfold putE; rw [hl, hmx, hfx]; rfl
          have PU := Lib.hid (show ∀ W, TabAt W → RdI W (.slice (some ⟨gr, 0, none⟩) L.length cr) L → Calls Tryd.prog 19 #[.slice (some ⟨gr, 0, none⟩) L.length cr, .agg #[.string (str X.key), .int .i64 X.v.k, .int .i64 X.v.i, .string (str X.v.s), .int .i64 X.ver]] W (OwnIE W (withL L X) 0) by
            have e2 : putR L X = withL L X := by unfold putR; rw [e1]; rfl
            rw [e1, e2] at PU0; exact PU0)
          have WL := Lib.hid (show (withL L X).length ≤ 100 from Nat.le_trans (with_len e1) (by decide))
          have AX := Lib.hid (fun W h => refAt_yes (.slice a3 L.length c3) L X.key W h hl hfx)
          have hpz : decide ((posL L X.key : Int) < 0) = false := by simp
          clear hl hmx PU0 hfx e1
          as_aux_lemma =>
            go_wp2_with fail
            refine (GL.out _ (T5.out.below B7) (RIN.out.below B7 (Nat.le_refl _))).mono ?_
            rintro e w8 ⟨rfl, g⟩
            have x8 := (g.block _ (lt_of_block x7)).trans x7
            have B8 := chain B7 g
            clear g
            have a9 := (Below.refl w8.heap.size w8).alloc (Nat.le_refl _) (.cells #[.string (str G0.key), .int .i64 G0.v.k, .int .i64 G0.v.i, .string (str G0.v.s), .int .i64 G0.ver] 32)
            have x9 := (a9.block _ (lt_of_block x8)).trans x8
            have s9 := heap_alloc_new w8 (.cells #[.string (str G0.key), .int .i64 G0.v.k, .int .i64 G0.v.i, .string (str G0.v.s), .int .i64 G0.ver] 32)
            have B9 := chain B8 a9
            obtain ⟨xc0, xc1, xc2, xc3, xc4, xcz⟩ := block_cells5 x9
            go_wp2_with fail
            refine (PU.out _ (T5.out.below B9) (RIN.out.below B9 (Nat.le_refl _))).mono ?_
            rintro e w10 ⟨vP, rfl, oP, g⟩
            have x10 := (g.block _ (lt_of_block x9)).trans x9
            have s10 := (g.block _ (lt_of_block s9)).trans s9
            have B10 := chain B9 g
            clear g
            have hrP := OwnI.rd (w := w) oP
            obtain ⟨aP, cP, rfl, kP1, kP2⟩ := slice_of_rd hrP
            have RDP := Lib.hid hrP
            clear oP hrP
            have P10 := Below.refl w10.heap.size w10
            go_wp2_with fail
            refine (DE.out _ (T5.out.below B10) (RIN.out.below B10 (Nat.le_refl _))).mono ?_
            rintro e w11 ⟨vD, rfl, oD, g⟩
            have x11 := (g.block _ (lt_of_block x10)).trans x10
            have s11 := (g.block _ (lt_of_block s10)).trans s10
            have B11 := chain B10 g
            skip
            have P11 := chain P10 g
            clear g
            have hrD := OwnI.rd (w := w) oD
            obtain ⟨aD, cD, rfl, kD1, kD2⟩ := slice_of_rd hrD
            have RDD := Lib.hid hrD
            clear oD hrD
            have Q11 := Below.refl w11.heap.size w11
            have SM := refSame_yes (.slice (some ⟨gr, 0, none⟩) L.length cr) (.slice a3 L.length c3) L w11 (RIN.out.below B11 (Nat.le_refl _)) (RDL.out.below B11 (Nat.le_refl _)) (by omega)
            go_wp2_with fail
            refine SM.mono ?_
            rintro e w12 ⟨rfl, m12, hw12⟩
            have g : Below w11.heap.size w11 w12 := by rw [hw12]; exact below_drewN (Below.refl _ _)
            have x12 := (g.block _ (lt_of_block x11)).trans x11
            have s12 := (g.block _ (lt_of_block s11)).trans s11
            have B12 := chain B11 g
            have P12 := chain P11 g
            have Q12 := chain Q11 g
            clear g hw12 SM
            have rv := (B12.cell (p := ⟨gr, L.length * 5 + 4, none⟩) hgr).trans RV.out
            go_wp2_with fail
            refine (IS.out _ (T5.out.below B12) (RDL.out.below B12 (Nat.le_refl _))).mono ?_
            rintro e w13 ⟨rfl, g⟩
            have x13 := (g.block _ (lt_of_block x12)).trans x12
            have s13 := (g.block _ (lt_of_block s12)).trans s12
            have B13 := chain B12 g
            skip
            have P13 := chain P12 g
            have Q13 := chain Q12 g
            clear g
            obtain ⟨sc0, sc1, sc2, sc3, sc4, scz⟩ := block_cells5 s13
            go_wp2_with fail
            refine ((AK.out _ (RDL.out.below B13 (Nat.le_refl _)))).mono ?_
            rintro e w' ⟨rfl, rfl⟩
            have hrd := (RDL.out.below B13 (Nat.le_refl _))
            have RLH := Lib.hid hrd
            obtain ⟨bl, ofl, rfl, hbl, c0, c1, c2, c3, c4⟩ := rdi_cells hrd p hpl
            rw [HXP.out hpl] at c0 c1 c2 c3 c4
            clear hrd
            go_wp2_with fail
            refine g_start (by kernel_rfl) ?_
            refine g_take (i := 0) (d := (some 117)) (v := ?_) rfl rfl (by kernel_rfl) (fun _ _ _ h => h) (by rfl) (fun w' hb' => ?_) ?_
            rotate_left
            · obtain ⟨sc0, sc1, sc2, sc3, sc4, scz⟩ := block_cells5 ((hb'.block _ (lt_of_block s13)).trans s13); (try go_simp); (try with_reducible rfl)
            try simp only [Act.put, List.setIfInBounds_toArray, List.set_cons_zero, List.set_cons_succ]
            refine g_take (i := 1) (d := (some 118)) (v := ?_) rfl rfl (by kernel_rfl) (fun _ _ _ h => h) (by rfl) (fun w' hb' => ?_) ?_
            rotate_left
            · (try go_simp); (try with_reducible rfl)
            try simp only [Act.put, List.setIfInBounds_toArray, List.set_cons_zero, List.set_cons_succ]
            refine g_take (i := 2) (d := (some 119)) (v := ?_) rfl rfl (by kernel_rfl) (fun _ _ _ h => h) (by rfl) (fun w' hb' => ?_) ?_
            rotate_left
            · (try go_simp); (try with_reducible rfl)
            try simp only [Act.put, List.setIfInBounds_toArray, List.set_cons_zero, List.set_cons_succ]
            refine g_take (i := 3) (d := (some 120)) (v := ?_) rfl rfl (by kernel_rfl) (fun _ _ _ h => h) (by rfl) (fun w' hb' => ?_) ?_
            rotate_left
            · (try go_simp); (try with_reducible rfl)
            try simp only [Act.put, List.setIfInBounds_toArray, List.set_cons_zero, List.set_cons_succ]
            refine g_take (i := 4) (d := (some 121)) (v := ?_) rfl rfl (by kernel_rfl) (fun _ _ _ h => h) (by rfl) (fun w' hb' => ?_) ?_
            rotate_left
            · have c0 := (hb'.cell (p := ⟨bl, ofl + p * 5, none⟩) hbl).trans c0; have c1 := (hb'.cell (p := ⟨bl, ofl + p * 5 + 1, none⟩) hbl).trans c1; have c2 := (hb'.cell (p := ⟨bl, ofl + p * 5 + 2, none⟩) hbl).trans c2; have c3 := (hb'.cell (p := ⟨bl, ofl + p * 5 + 3, none⟩) hbl).trans c3; have c4 := (hb'.cell (p := ⟨bl, ofl + p * 5 + 4, none⟩) hbl).trans c4; (try go_simp); (try with_reducible rfl)
            try simp only [Act.put, List.setIfInBounds_toArray, List.set_cons_zero, List.set_cons_succ]
            refine g_take (i := 5) (d := (some 122)) (v := ?_) rfl rfl (by kernel_rfl) (fun _ _ _ h => h) (by rfl) (fun w' hb' => ?_) ?_
            rotate_left
            · (refine it_ne_op _ _ (.tmp 117) (.tmp 121) 32 G0 ?_ ?_ ?_ w' <;> rfl); (try go_simp); (try with_reducible rfl)
            try simp only [Act.put, List.setIfInBounds_toArray, List.set_cons_zero, List.set_cons_succ]
            refine g_take (i := 6) (d := (some 123)) (v := ?_) rfl rfl (by kernel_rfl) (fun _ _ _ h => h) (by rfl) (fun w' hb' => ?_) ?_
            rotate_left
            · (try go_simp); (try with_reducible rfl)
            try simp only [Act.put, List.setIfInBounds_toArray, List.set_cons_zero, List.set_cons_succ]
            refine g_take (i := 7) (d := (some 124)) (v := ?_) rfl rfl (by kernel_rfl) (fun _ _ _ h => h) (by rfl) (fun w' hb' => ?_) ?_
            rotate_left
            · (try go_simp); (try with_reducible rfl)
            try simp only [Act.put, List.setIfInBounds_toArray, List.set_cons_zero, List.set_cons_succ]
            refine g_take (i := 8) (d := (some 125)) (v := ?_) rfl rfl (by kernel_rfl) (fun _ _ _ h => h) (by rfl) (fun w' hb' => ?_) ?_
            rotate_left
            · (try go_simp); (try with_reducible rfl)
            try simp only [Act.put, List.setIfInBounds_toArray, List.set_cons_zero, List.set_cons_succ]
            refine g_take (i := 9) (d := (some 126)) (v := ?_) rfl rfl (by kernel_rfl) (fun _ _ _ h => h) (by rfl) (fun w' hb' => ?_) ?_
            rotate_left
            · (try go_simp); (try with_reducible rfl)
            try simp only [Act.put, List.setIfInBounds_toArray, List.set_cons_zero, List.set_cons_succ]
            refine g_take (i := 10) (d := (some 127)) (v := ?_) rfl rfl (by kernel_rfl) (fun _ _ _ h => h) (by rfl) (fun w' hb' => ?_) ?_
            rotate_left
            · (try go_simp); (try with_reducible rfl)
            try simp only [Act.put, List.setIfInBounds_toArray, List.set_cons_zero, List.set_cons_succ]
            refine g_take (i := 11) (d := (some 128)) (v := ?_) rfl rfl (by kernel_rfl) (fun _ _ _ h => h) (by rfl) (fun w' hb' => ?_) ?_
            rotate_left
            · (try go_simp); (try with_reducible rfl)
            try simp only [Act.put, List.setIfInBounds_toArray, List.set_cons_zero, List.set_cons_succ]
            refine g_take (i := 12) (d := (some 129)) (v := ?_) rfl rfl (by kernel_rfl) (fun _ _ _ h => h) (by rfl) (fun w' hb' => ?_) ?_
            rotate_left
            · (try go_simp); (try with_reducible rfl)
            try simp only [Act.put, List.setIfInBounds_toArray, List.set_cons_zero, List.set_cons_succ]
            refine g_take (i := 13) (d := (some 130)) (v := ?_) rfl rfl (by kernel_rfl) (fun _ _ _ h => h) (by rfl) (fun w' hb' => ?_) ?_
            rotate_left
            · (try go_simp); (try with_reducible rfl)
            try simp only [Act.put, List.setIfInBounds_toArray, List.set_cons_zero, List.set_cons_succ]
            refine g_run (i := 14) rfl (by kernel_rfl) (by rfl) (fun K hK => ?_)
            go_simp; refine (RWO.out _ (RLH.out.below (Below.drew (Below.refl _ _)) (Nat.le_refl _))).mono ?_; rintro e wq ⟨vq, rfl, oq, gq⟩; have gq2 : Below w13.heap.size w13 wq := Below.trans (Below.drew (Below.refl _ _)) gq; refine hK _ _ ⟨gq, ?_⟩; clear hK K
            try simp only [Act.put, List.setIfInBounds_toArray, List.set_cons_zero, List.set_cons_succ]
            refine g_run (i := 15) rfl (by kernel_rfl) (by rfl) (fun K hK => ?_)
            go_simp; refine (refSame_yes (.slice aD (withoutL L K9).length cD) vq (withoutL L K9) wq (RDD.out.below (chain Q13 gq2) (Nat.le_refl _)) (OwnI.rd (w := w) oq) DL.out).mono ?_; rintro e w14 ⟨rfl, m14, hw14⟩; refine hK _ _ ⟨by rw [hw14]; exact below_drewN (Below.refl _ _), ?_⟩; clear hK K
            try simp only [Act.put, List.setIfInBounds_toArray, List.set_cons_zero, List.set_cons_succ]
            refine g_take (i := 16) (d := (some 133)) (v := ?_) rfl rfl (by kernel_rfl) (fun _ _ _ h => h) (by rfl) (fun w' hb' => ?_) ?_
            rotate_left
            · (try go_simp); (try with_reducible rfl)
            try simp only [Act.put, List.setIfInBounds_toArray, List.set_cons_zero, List.set_cons_succ]
            refine g_take (i := 17) (d := (some 134)) (v := ?_) rfl rfl (by kernel_rfl) (fun _ _ _ h => h) (by rfl) (fun w' hb' => ?_) ?_
            rotate_left
            · (try go_simp); (try with_reducible rfl)
            try simp only [Act.put, List.setIfInBounds_toArray, List.set_cons_zero, List.set_cons_succ]
            refine g_take (i := 18) (d := (some 135)) (v := ?_) rfl rfl (by kernel_rfl) (fun _ _ _ h => h) (by rfl) (fun w' hb' => ?_) ?_
            rotate_left
            · (try go_simp); (try with_reducible rfl)
            try simp only [Act.put, List.setIfInBounds_toArray, List.set_cons_zero, List.set_cons_succ]
            refine g_take (i := 19) (d := (some 136)) (v := ?_) rfl rfl (by kernel_rfl) (fun _ _ _ h => h) (by rfl) (fun w' hb' => ?_) ?_
            rotate_left
            · (try go_simp); (try with_reducible rfl)
            try simp only [Act.put, List.setIfInBounds_toArray, List.set_cons_zero, List.set_cons_succ]
            refine g_take (i := 20) (d := (some 137)) (v := ?_) rfl rfl (by kernel_rfl) (fun _ _ _ h => h) (by rfl) (fun w' hb' => ?_) ?_
            rotate_left
            · (try go_simp); (try with_reducible rfl)
            try simp only [Act.put, List.setIfInBounds_toArray, List.set_cons_zero, List.set_cons_succ]
            refine g_take (i := 21) (d := (some 138)) (v := ?_) rfl rfl (by kernel_rfl) (fun _ _ _ h => h) (by rfl) (fun w' hb' => ?_) ?_
            rotate_left
            · (try go_simp); (try with_reducible rfl)
            try simp only [Act.put, List.setIfInBounds_toArray, List.set_cons_zero, List.set_cons_succ]
            refine g_done (by kernel_rfl) ?_
            have g : Below w13.heap.size w13 w14 := by rw [hw14]; exact below_drewN gq2
            have x14 := (g.block _ (lt_of_block x13)).trans x13
            have s14 := (g.block _ (lt_of_block s13)).trans s13
            have B14 := chain B13 g
            have P14 := chain P13 g
            have Q14 := chain Q13 g
            clear g hw14 oq gq gq2 c0 c1 c2 c3 c4
            obtain ⟨xc0, xc1, xc2, xc3, xc4, xcz⟩ := block_cells5 x14
            have MYR := (refLeafMay_any X HX2.out.1 HX2.out.2).at w14 (T5.out.below B14)
            unfold itV at MYR
            rw [HMX.out] at MYR
            go_wp2_with fail
            refine (MYR).mono ?_
            rintro e w15 ⟨rfl, g⟩
            have x15 := (g.block _ (lt_of_block x14)).trans x14
            have s15 := (g.block _ (lt_of_block s14)).trans s14
            have B15 := chain B14 g
            skip
            have P15 := chain P14 g
            have Q15 := chain Q14 g
            clear g
            clear MYR
            obtain ⟨xc0, xc1, xc2, xc3, xc4, xcz⟩ := block_cells5 x15
            go_wp2_with fail
            refine ((AX.out _ (RDL.out.below B15 (Nat.le_refl _)))).mono ?_
            rintro e w' ⟨rfl, rfl⟩
            have RW := refWith_any _ L X w15 (RDL.out.below B15 (Nat.le_refl _)) HS.out HX2.out.1 h66
            unfold itV at RW
            go_wp2_with fail
            refine (RW).mono ?_
            rintro e w16 ⟨vW, rfl, oW, g⟩
            have x16 := (g.block _ (lt_of_block x15)).trans x15
            have s16 := (g.block _ (lt_of_block s15)).trans s15
            have B16 := chain B15 g
            skip
            have P16 := chain P15 g
            have Q16 := chain Q15 g
            clear g
            clear RW
            have SM2 := refSame_yes (.slice aP (withL L X).length cP) vW (withL L X) w16 (RDP.out.below P16 (Nat.le_refl _)) (OwnI.rd (w := w) oW) WL.out
            go_wp2_with fail
            refine SM2.mono ?_
            rintro e w17 ⟨rfl, m17, hw17⟩
            have g : Below w16.heap.size w16 w17 := by rw [hw17]; exact below_drewN (Below.refl _ _)
            have x17 := (g.block _ (lt_of_block x16)).trans x16
            have s17 := (g.block _ (lt_of_block s16)).trans s16
            have B17 := chain B16 g
            have P17 := chain P16 g
            have Q17 := chain Q16 g
            clear g hw17 SM2
            have AW := awake9_any.at _ (T5.out.below B17)
            go_wp2_with fail
            refine (AW).mono ?_
            rintro e w18 ⟨rfl, g⟩
            have x18 := (g.block _ (lt_of_block x17)).trans x17
            have s18 := (g.block _ (lt_of_block s17)).trans s17
            have B18 := chain B17 g
            clear g
            go_wp2_with fail
            go_ret
            exact ⟨rfl, chain B05.out B18⟩
        | false =>
          have AX := Lib.hid (fun W h => refAt_no (.slice a3 L.length c3) L X.key W h hl hfx)
          by_cases h6 : L.length = 64
          · have PU := Lib.hid (show ∀ W, TabAt W → RdI W (.slice (some ⟨gr, 0, none⟩) L.length cr) L → Calls Tryd.prog 19 #[.slice (some ⟨gr, 0, none⟩) L.length cr, .agg #[.string (str X.key), .int .i64 X.v.k, .int .i64 X.v.i, .string (str X.v.s), .int .i64 X.ver]] W (OwnIE W [] 5) by
              have e1 : putE L X = 5 := by unfold putE; rw [hl, hmx, hfx]; simp [h6]
              have e2 : putR L X = [] := by unfold putR; rw [e1]; rfl
              rw [e1, e2] at PU0; exact PU0)
            have k64 : ((L.length : Int) == 64) = true := by simp [h6]
            have H6 := Lib.hid h6
            clear hl hmx PU0 hfx h6
            as_aux_lemma =>
              go_wp2_with fail
              refine (GL.out _ (T5.out.below B7) (RIN.out.below B7 (Nat.le_refl _))).mono ?_
              rintro e w8 ⟨rfl, g⟩
              have x8 := (g.block _ (lt_of_block x7)).trans x7
              have B8 := chain B7 g
              clear g
              have a9 := (Below.refl w8.heap.size w8).alloc (Nat.le_refl _) (.cells #[.string (str G0.key), .int .i64 G0.v.k, .int .i64 G0.v.i, .string (str G0.v.s), .int .i64 G0.ver] 32)
              have x9 := (a9.block _ (lt_of_block x8)).trans x8
              have s9 := heap_alloc_new w8 (.cells #[.string (str G0.key), .int .i64 G0.v.k, .int .i64 G0.v.i, .string (str G0.v.s), .int .i64 G0.ver] 32)
              have B9 := chain B8 a9
              obtain ⟨xc0, xc1, xc2, xc3, xc4, xcz⟩ := block_cells5 x9
              go_wp2_with fail
              refine (PU.out _ (T5.out.below B9) (RIN.out.below B9 (Nat.le_refl _))).mono ?_
              rintro e w10 ⟨vP, rfl, oP, g⟩
              have x10 := (g.block _ (lt_of_block x9)).trans x9
              have s10 := (g.block _ (lt_of_block s9)).trans s9
              have B10 := chain B9 g
              clear g
              have hrP := OwnI.rd (w := w) oP
              obtain ⟨aP, cP, rfl, kP1, kP2⟩ := slice_of_rd hrP
              have RDP := Lib.hid hrP
              clear oP hrP
              have P10 := Below.refl w10.heap.size w10
              go_wp2_with fail
              refine (DE.out _ (T5.out.below B10) (RIN.out.below B10 (Nat.le_refl _))).mono ?_
              rintro e w11 ⟨vD, rfl, oD, g⟩
              have x11 := (g.block _ (lt_of_block x10)).trans x10
              have s11 := (g.block _ (lt_of_block s10)).trans s10
              have B11 := chain B10 g
              skip
              have P11 := chain P10 g
              clear g
              have hrD := OwnI.rd (w := w) oD
              obtain ⟨aD, cD, rfl, kD1, kD2⟩ := slice_of_rd hrD
              have RDD := Lib.hid hrD
              clear oD hrD
              have Q11 := Below.refl w11.heap.size w11
              have SM := refSame_yes (.slice (some ⟨gr, 0, none⟩) L.length cr) (.slice a3 L.length c3) L w11 (RIN.out.below B11 (Nat.le_refl _)) (RDL.out.below B11 (Nat.le_refl _)) (by omega)
              go_wp2_with fail
              refine SM.mono ?_
              rintro e w12 ⟨rfl, m12, hw12⟩
              have g : Below w11.heap.size w11 w12 := by rw [hw12]; exact below_drewN (Below.refl _ _)
              have x12 := (g.block _ (lt_of_block x11)).trans x11
              have s12 := (g.block _ (lt_of_block s11)).trans s11
              have B12 := chain B11 g
              have P12 := chain P11 g
              have Q12 := chain Q11 g
              clear g hw12 SM
              have rv := (B12.cell (p := ⟨gr, L.length * 5 + 4, none⟩) hgr).trans RV.out
              go_wp2_with fail
              refine (IS.out _ (T5.out.below B12) (RDL.out.below B12 (Nat.le_refl _))).mono ?_
              rintro e w13 ⟨rfl, g⟩
              have x13 := (g.block _ (lt_of_block x12)).trans x12
              have s13 := (g.block _ (lt_of_block s12)).trans s12
              have B13 := chain B12 g
              skip
              have P13 := chain P12 g
              have Q13 := chain Q12 g
              clear g
              obtain ⟨sc0, sc1, sc2, sc3, sc4, scz⟩ := block_cells5 s13
              go_wp2_with fail
              refine ((AK.out _ (RDL.out.below B13 (Nat.le_refl _)))).mono ?_
              rintro e w' ⟨rfl, rfl⟩
              have hrd := (RDL.out.below B13 (Nat.le_refl _))
              have RLH := Lib.hid hrd
              obtain ⟨bl, ofl, rfl, hbl, c0, c1, c2, c3, c4⟩ := rdi_cells hrd p hpl
              rw [HXP.out hpl] at c0 c1 c2 c3 c4
              clear hrd
              go_wp2_with fail
              refine g_start (by kernel_rfl) ?_
              refine g_take (i := 0) (d := (some 117)) (v := ?_) rfl rfl (by kernel_rfl) (fun _ _ _ h => h) (by rfl) (fun w' hb' => ?_) ?_
              rotate_left
              · obtain ⟨sc0, sc1, sc2, sc3, sc4, scz⟩ := block_cells5 ((hb'.block _ (lt_of_block s13)).trans s13); (try go_simp); (try with_reducible rfl)
              try simp only [Act.put, List.setIfInBounds_toArray, List.set_cons_zero, List.set_cons_succ]
              refine g_take (i := 1) (d := (some 118)) (v := ?_) rfl rfl (by kernel_rfl) (fun _ _ _ h => h) (by rfl) (fun w' hb' => ?_) ?_
              rotate_left
              · (try go_simp); (try with_reducible rfl)
              try simp only [Act.put, List.setIfInBounds_toArray, List.set_cons_zero, List.set_cons_succ]
              refine g_take (i := 2) (d := (some 119)) (v := ?_) rfl rfl (by kernel_rfl) (fun _ _ _ h => h) (by rfl) (fun w' hb' => ?_) ?_
              rotate_left
              · (try go_simp); (try with_reducible rfl)
              try simp only [Act.put, List.setIfInBounds_toArray, List.set_cons_zero, List.set_cons_succ]
              refine g_take (i := 3) (d := (some 120)) (v := ?_) rfl rfl (by kernel_rfl) (fun _ _ _ h => h) (by rfl) (fun w' hb' => ?_) ?_
              rotate_left
              · (try go_simp); (try with_reducible rfl)
              try simp only [Act.put, List.setIfInBounds_toArray, List.set_cons_zero, List.set_cons_succ]
              refine g_take (i := 4) (d := (some 121)) (v := ?_) rfl rfl (by kernel_rfl) (fun _ _ _ h => h) (by rfl) (fun w' hb' => ?_) ?_
              rotate_left
              · have c0 := (hb'.cell (p := ⟨bl, ofl + p * 5, none⟩) hbl).trans c0; have c1 := (hb'.cell (p := ⟨bl, ofl + p * 5 + 1, none⟩) hbl).trans c1; have c2 := (hb'.cell (p := ⟨bl, ofl + p * 5 + 2, none⟩) hbl).trans c2; have c3 := (hb'.cell (p := ⟨bl, ofl + p * 5 + 3, none⟩) hbl).trans c3; have c4 := (hb'.cell (p := ⟨bl, ofl + p * 5 + 4, none⟩) hbl).trans c4; (try go_simp); (try with_reducible rfl)
              try simp only [Act.put, List.setIfInBounds_toArray, List.set_cons_zero, List.set_cons_succ]
              refine g_take (i := 5) (d := (some 122)) (v := ?_) rfl rfl (by kernel_rfl) (fun _ _ _ h => h) (by rfl) (fun w' hb' => ?_) ?_
              rotate_left
              · (refine it_ne_op _ _ (.tmp 117) (.tmp 121) 32 G0 ?_ ?_ ?_ w' <;> rfl); (try go_simp); (try with_reducible rfl)
              try simp only [Act.put, List.setIfInBounds_toArray, List.set_cons_zero, List.set_cons_succ]
              refine g_take (i := 6) (d := (some 123)) (v := ?_) rfl rfl (by kernel_rfl) (fun _ _ _ h => h) (by rfl) (fun w' hb' => ?_) ?_
              rotate_left
              · (try go_simp); (try with_reducible rfl)
              try simp only [Act.put, List.setIfInBounds_toArray, List.set_cons_zero, List.set_cons_succ]
              refine g_take (i := 7) (d := (some 124)) (v := ?_) rfl rfl (by kernel_rfl) (fun _ _ _ h => h) (by rfl) (fun w' hb' => ?_) ?_
              rotate_left
              · (try go_simp); (try with_reducible rfl)
              try simp only [Act.put, List.setIfInBounds_toArray, List.set_cons_zero, List.set_cons_succ]
              refine g_take (i := 8) (d := (some 125)) (v := ?_) rfl rfl (by kernel_rfl) (fun _ _ _ h => h) (by rfl) (fun w' hb' => ?_) ?_
              rotate_left
              · (try go_simp); (try with_reducible rfl)
              try simp only [Act.put, List.setIfInBounds_toArray, List.set_cons_zero, List.set_cons_succ]
              refine g_take (i := 9) (d := (some 126)) (v := ?_) rfl rfl (by kernel_rfl) (fun _ _ _ h => h) (by rfl) (fun w' hb' => ?_) ?_
              rotate_left
              · (try go_simp); (try with_reducible rfl)
              try simp only [Act.put, List.setIfInBounds_toArray, List.set_cons_zero, List.set_cons_succ]
              refine g_take (i := 10) (d := (some 127)) (v := ?_) rfl rfl (by kernel_rfl) (fun _ _ _ h => h) (by rfl) (fun w' hb' => ?_) ?_
              rotate_left
              · (try go_simp); (try with_reducible rfl)
              try simp only [Act.put, List.setIfInBounds_toArray, List.set_cons_zero, List.set_cons_succ]
              refine g_take (i := 11) (d := (some 128)) (v := ?_) rfl rfl (by kernel_rfl) (fun _ _ _ h => h) (by rfl) (fun w' hb' => ?_) ?_
              rotate_left
              · (try go_simp); (try with_reducible rfl)
              try simp only [Act.put, List.setIfInBounds_toArray, List.set_cons_zero, List.set_cons_succ]
              refine g_take (i := 12) (d := (some 129)) (v := ?_) rfl rfl (by kernel_rfl) (fun _ _ _ h => h) (by rfl) (fun w' hb' => ?_) ?_
              rotate_left
              · (try go_simp); (try with_reducible rfl)
              try simp only [Act.put, List.setIfInBounds_toArray, List.set_cons_zero, List.set_cons_succ]
              refine g_take (i := 13) (d := (some 130)) (v := ?_) rfl rfl (by kernel_rfl) (fun _ _ _ h => h) (by rfl) (fun w' hb' => ?_) ?_
              rotate_left
              · (try go_simp); (try with_reducible rfl)
              try simp only [Act.put, List.setIfInBounds_toArray, List.set_cons_zero, List.set_cons_succ]
              refine g_run (i := 14) rfl (by kernel_rfl) (by rfl) (fun K hK => ?_)
              go_simp; refine (RWO.out _ (RLH.out.below (Below.drew (Below.refl _ _)) (Nat.le_refl _))).mono ?_; rintro e wq ⟨vq, rfl, oq, gq⟩; have gq2 : Below w13.heap.size w13 wq := Below.trans (Below.drew (Below.refl _ _)) gq; refine hK _ _ ⟨gq, ?_⟩; clear hK K
              try simp only [Act.put, List.setIfInBounds_toArray, List.set_cons_zero, List.set_cons_succ]
              refine g_run (i := 15) rfl (by kernel_rfl) (by rfl) (fun K hK => ?_)
              go_simp; refine (refSame_yes (.slice aD (withoutL L K9).length cD) vq (withoutL L K9) wq (RDD.out.below (chain Q13 gq2) (Nat.le_refl _)) (OwnI.rd (w := w) oq) DL.out).mono ?_; rintro e w14 ⟨rfl, m14, hw14⟩; refine hK _ _ ⟨by rw [hw14]; exact below_drewN (Below.refl _ _), ?_⟩; clear hK K
              try simp only [Act.put, List.setIfInBounds_toArray, List.set_cons_zero, List.set_cons_succ]
              refine g_take (i := 16) (d := (some 133)) (v := ?_) rfl rfl (by kernel_rfl) (fun _ _ _ h => h) (by rfl) (fun w' hb' => ?_) ?_
              rotate_left
              · (try go_simp); (try with_reducible rfl)
              try simp only [Act.put, List.setIfInBounds_toArray, List.set_cons_zero, List.set_cons_succ]
              refine g_take (i := 17) (d := (some 134)) (v := ?_) rfl rfl (by kernel_rfl) (fun _ _ _ h => h) (by rfl) (fun w' hb' => ?_) ?_
              rotate_left
              · (try go_simp); (try with_reducible rfl)
              try simp only [Act.put, List.setIfInBounds_toArray, List.set_cons_zero, List.set_cons_succ]
              refine g_take (i := 18) (d := (some 135)) (v := ?_) rfl rfl (by kernel_rfl) (fun _ _ _ h => h) (by rfl) (fun w' hb' => ?_) ?_
              rotate_left
              · (try go_simp); (try with_reducible rfl)
              try simp only [Act.put, List.setIfInBounds_toArray, List.set_cons_zero, List.set_cons_succ]
              refine g_take (i := 19) (d := (some 136)) (v := ?_) rfl rfl (by kernel_rfl) (fun _ _ _ h => h) (by rfl) (fun w' hb' => ?_) ?_
              rotate_left
              · (try go_simp); (try with_reducible rfl)
              try simp only [Act.put, List.setIfInBounds_toArray, List.set_cons_zero, List.set_cons_succ]
              refine g_take (i := 20) (d := (some 137)) (v := ?_) rfl rfl (by kernel_rfl) (fun _ _ _ h => h) (by rfl) (fun w' hb' => ?_) ?_
              rotate_left
              · (try go_simp); (try with_reducible rfl)
              try simp only [Act.put, List.setIfInBounds_toArray, List.set_cons_zero, List.set_cons_succ]
              refine g_take (i := 21) (d := (some 138)) (v := ?_) rfl rfl (by kernel_rfl) (fun _ _ _ h => h) (by rfl) (fun w' hb' => ?_) ?_
              rotate_left
              · (try go_simp); (try with_reducible rfl)
              try simp only [Act.put, List.setIfInBounds_toArray, List.set_cons_zero, List.set_cons_succ]
              refine g_done (by kernel_rfl) ?_
              have g : Below w13.heap.size w13 w14 := by rw [hw14]; exact below_drewN gq2
              have x14 := (g.block _ (lt_of_block x13)).trans x13
              have s14 := (g.block _ (lt_of_block s13)).trans s13
              have B14 := chain B13 g
              have P14 := chain P13 g
              have Q14 := chain Q13 g
              clear g hw14 oq gq gq2 c0 c1 c2 c3 c4
              obtain ⟨xc0, xc1, xc2, xc3, xc4, xcz⟩ := block_cells5 x14
              have MYR := (refLeafMay_any X HX2.out.1 HX2.out.2).at w14 (T5.out.below B14)
              unfold itV at MYR
              rw [HMX.out] at MYR
              go_wp2_with fail
              refine (MYR).mono ?_
              rintro e w15 ⟨rfl, g⟩
              have x15 := (g.block _ (lt_of_block x14)).trans x14
              have s15 := (g.block _ (lt_of_block s14)).trans s14
              have B15 := chain B14 g
              skip
              have P15 := chain P14 g
              have Q15 := chain Q14 g
              clear g
              clear MYR
              obtain ⟨xc0, xc1, xc2, xc3, xc4, xcz⟩ := block_cells5 x15
              go_wp2_with fail
              refine ((AX.out _ (RDL.out.below B15 (Nat.le_refl _)))).mono ?_
              rintro e w' ⟨rfl, rfl⟩
              have AW := awake9_any.at _ (T5.out.below B15)
              go_wp2_with fail
              refine (AW).mono ?_
              rintro e w16 ⟨rfl, g⟩
              have x16 := (g.block _ (lt_of_block x15)).trans x15
              have s16 := (g.block _ (lt_of_block s15)).trans s15
              have B16 := chain B15 g
              clear g
              go_wp2_with fail
              go_ret
              exact ⟨rfl, chain B05.out B16⟩
          · have e1 : putE L X = 0 := by unfold putE; rw [hl, hmx, hfx]; simp [h6]
            have PU := Lib.hid (show ∀ W, TabAt W → RdI W (.slice (some ⟨gr, 0, none⟩) L.length cr) L → Calls Tryd.prog 19 #[.slice (some ⟨gr, 0, none⟩) L.length cr, .agg #[.string (str X.key), .int .i64 X.v.k, .int .i64 X.v.i, .string (str X.v.s), .int .i64 X.ver]] W (OwnIE W (withL L X) 0) by
              have e2 : putR L X = withL L X := by unfold putR; rw [e1]; rfl
              rw [e1, e2] at PU0; exact PU0)
            have WL := Lib.hid (show (withL L X).length ≤ 100 from Nat.le_trans (with_len e1) (by decide))
            have k64 : ((L.length : Int) == 64) = false := by simp; omega
            have H6 := Lib.hid h6
            clear hl hmx PU0 hfx e1 h6
            as_aux_lemma =>
              go_wp2_with fail
              refine (GL.out _ (T5.out.below B7) (RIN.out.below B7 (Nat.le_refl _))).mono ?_
              rintro e w8 ⟨rfl, g⟩
              have x8 := (g.block _ (lt_of_block x7)).trans x7
              have B8 := chain B7 g
              clear g
              have a9 := (Below.refl w8.heap.size w8).alloc (Nat.le_refl _) (.cells #[.string (str G0.key), .int .i64 G0.v.k, .int .i64 G0.v.i, .string (str G0.v.s), .int .i64 G0.ver] 32)
              have x9 := (a9.block _ (lt_of_block x8)).trans x8
              have s9 := heap_alloc_new w8 (.cells #[.string (str G0.key), .int .i64 G0.v.k, .int .i64 G0.v.i, .string (str G0.v.s), .int .i64 G0.ver] 32)
              have B9 := chain B8 a9
              obtain ⟨xc0, xc1, xc2, xc3, xc4, xcz⟩ := block_cells5 x9
              go_wp2_with fail
              refine (PU.out _ (T5.out.below B9) (RIN.out.below B9 (Nat.le_refl _))).mono ?_
              rintro e w10 ⟨vP, rfl, oP, g⟩
              have x10 := (g.block _ (lt_of_block x9)).trans x9
              have s10 := (g.block _ (lt_of_block s9)).trans s9
              have B10 := chain B9 g
              clear g
              have hrP := OwnI.rd (w := w) oP
              obtain ⟨aP, cP, rfl, kP1, kP2⟩ := slice_of_rd hrP
              have RDP := Lib.hid hrP
              clear oP hrP
              have P10 := Below.refl w10.heap.size w10
              go_wp2_with fail
              refine (DE.out _ (T5.out.below B10) (RIN.out.below B10 (Nat.le_refl _))).mono ?_
              rintro e w11 ⟨vD, rfl, oD, g⟩
              have x11 := (g.block _ (lt_of_block x10)).trans x10
              have s11 := (g.block _ (lt_of_block s10)).trans s10
              have B11 := chain B10 g
              skip
              have P11 := chain P10 g
              clear g
              have hrD := OwnI.rd (w := w) oD
              obtain ⟨aD, cD, rfl, kD1, kD2⟩ := slice_of_rd hrD
              have RDD := Lib.hid hrD
              clear oD hrD
              have Q11 := Below.refl w11.heap.size w11
              have SM := refSame_yes (.slice (some ⟨gr, 0, none⟩) L.length cr) (.slice a3 L.length c3) L w11 (RIN.out.below B11 (Nat.le_refl _)) (RDL.out.below B11 (Nat.le_refl _)) (by omega)
              go_wp2_with fail
              refine SM.mono ?_
              rintro e w12 ⟨rfl, m12, hw12⟩
              have g : Below w11.heap.size w11 w12 := by rw [hw12]; exact below_drewN (Below.refl _ _)
              have x12 := (g.block _ (lt_of_block x11)).trans x11
              have s12 := (g.block _ (lt_of_block s11)).trans s11
              have B12 := chain B11 g
              have P12 := chain P11 g
              have Q12 := chain Q11 g
              clear g hw12 SM
              have rv := (B12.cell (p := ⟨gr, L.length * 5 + 4, none⟩) hgr).trans RV.out
              go_wp2_with fail
              refine (IS.out _ (T5.out.below B12) (RDL.out.below B12 (Nat.le_refl _))).mono ?_
              rintro e w13 ⟨rfl, g⟩
              have x13 := (g.block _ (lt_of_block x12)).trans x12
              have s13 := (g.block _ (lt_of_block s12)).trans s12
              have B13 := chain B12 g
              skip
              have P13 := chain P12 g
              have Q13 := chain Q12 g
              clear g
              obtain ⟨sc0, sc1, sc2, sc3, sc4, scz⟩ := block_cells5 s13
              go_wp2_with fail
              refine ((AK.out _ (RDL.out.below B13 (Nat.le_refl _)))).mono ?_
              rintro e w' ⟨rfl, rfl⟩
              have hrd := (RDL.out.below B13 (Nat.le_refl _))
              have RLH := Lib.hid hrd
              obtain ⟨bl, ofl, rfl, hbl, c0, c1, c2, c3, c4⟩ := rdi_cells hrd p hpl
              rw [HXP.out hpl] at c0 c1 c2 c3 c4
              clear hrd
              go_wp2_with fail
              refine g_start (by kernel_rfl) ?_
              refine g_take (i := 0) (d := (some 117)) (v := ?_) rfl rfl (by kernel_rfl) (fun _ _ _ h => h) (by rfl) (fun w' hb' => ?_) ?_
              rotate_left
              · obtain ⟨sc0, sc1, sc2, sc3, sc4, scz⟩ := block_cells5 ((hb'.block _ (lt_of_block s13)).trans s13); (try go_simp); (try with_reducible rfl)
              try simp only [Act.put, List.setIfInBounds_toArray, List.set_cons_zero, List.set_cons_succ]
              refine g_take (i := 1) (d := (some 118)) (v := ?_) rfl rfl (by kernel_rfl) (fun _ _ _ h => h) (by rfl) (fun w' hb' => ?_) ?_
              rotate_left
              · (try go_simp); (try with_reducible rfl)
              try simp only [Act.put, List.setIfInBounds_toArray, List.set_cons_zero, List.set_cons_succ]
              refine g_take (i := 2) (d := (some 119)) (v := ?_) rfl rfl (by kernel_rfl) (fun _ _ _ h => h) (by rfl) (fun w' hb' => ?_) ?_
              rotate_left
              · (try go_simp); (try with_reducible rfl)
              try simp only [Act.put, List.setIfInBounds_toArray, List.set_cons_zero, List.set_cons_succ]
              refine g_take (i := 3) (d := (some 120)) (v := ?_) rfl rfl (by kernel_rfl) (fun _ _ _ h => h) (by rfl) (fun w' hb' => ?_) ?_
              rotate_left
              · (try go_simp); (try with_reducible rfl)
              try simp only [Act.put, List.setIfInBounds_toArray, List.set_cons_zero, List.set_cons_succ]
              refine g_take (i := 4) (d := (some 121)) (v := ?_) rfl rfl (by kernel_rfl) (fun _ _ _ h => h) (by rfl) (fun w' hb' => ?_) ?_
              rotate_left
              · have c0 := (hb'.cell (p := ⟨bl, ofl + p * 5, none⟩) hbl).trans c0; have c1 := (hb'.cell (p := ⟨bl, ofl + p * 5 + 1, none⟩) hbl).trans c1; have c2 := (hb'.cell (p := ⟨bl, ofl + p * 5 + 2, none⟩) hbl).trans c2; have c3 := (hb'.cell (p := ⟨bl, ofl + p * 5 + 3, none⟩) hbl).trans c3; have c4 := (hb'.cell (p := ⟨bl, ofl + p * 5 + 4, none⟩) hbl).trans c4; (try go_simp); (try with_reducible rfl)
              try simp only [Act.put, List.setIfInBounds_toArray, List.set_cons_zero, List.set_cons_succ]
              refine g_take (i := 5) (d := (some 122)) (v := ?_) rfl rfl (by kernel_rfl) (fun _ _ _ h => h) (by rfl) (fun w' hb' => ?_) ?_
              rotate_left
              · (refine it_ne_op _ _ (.tmp 117) (.tmp 121) 32 G0 ?_ ?_ ?_ w' <;> rfl); (try go_simp); (try with_reducible rfl)
              try simp only [Act.put, List.setIfInBounds_toArray, List.set_cons_zero, List.set_cons_succ]
              refine g_take (i := 6) (d := (some 123)) (v := ?_) rfl rfl (by kernel_rfl) (fun _ _ _ h => h) (by rfl) (fun w' hb' => ?_) ?_
              rotate_left
              · (try go_simp); (try with_reducible rfl)
              try simp only [Act.put, List.setIfInBounds_toArray, List.set_cons_zero, List.set_cons_succ]
              refine g_take (i := 7) (d := (some 124)) (v := ?_) rfl rfl (by kernel_rfl) (fun _ _ _ h => h) (by rfl) (fun w' hb' => ?_) ?_
              rotate_left
              · (try go_simp); (try with_reducible rfl)
              try simp only [Act.put, List.setIfInBounds_toArray, List.set_cons_zero, List.set_cons_succ]
              refine g_take (i := 8) (d := (some 125)) (v := ?_) rfl rfl (by kernel_rfl) (fun _ _ _ h => h) (by rfl) (fun w' hb' => ?_) ?_
              rotate_left
              · (try go_simp); (try with_reducible rfl)
              try simp only [Act.put, List.setIfInBounds_toArray, List.set_cons_zero, List.set_cons_succ]
              refine g_take (i := 9) (d := (some 126)) (v := ?_) rfl rfl (by kernel_rfl) (fun _ _ _ h => h) (by rfl) (fun w' hb' => ?_) ?_
              rotate_left
              · (try go_simp); (try with_reducible rfl)
              try simp only [Act.put, List.setIfInBounds_toArray, List.set_cons_zero, List.set_cons_succ]
              refine g_take (i := 10) (d := (some 127)) (v := ?_) rfl rfl (by kernel_rfl) (fun _ _ _ h => h) (by rfl) (fun w' hb' => ?_) ?_
              rotate_left
              · (try go_simp); (try with_reducible rfl)
              try simp only [Act.put, List.setIfInBounds_toArray, List.set_cons_zero, List.set_cons_succ]
              refine g_take (i := 11) (d := (some 128)) (v := ?_) rfl rfl (by kernel_rfl) (fun _ _ _ h => h) (by rfl) (fun w' hb' => ?_) ?_
              rotate_left
              · (try go_simp); (try with_reducible rfl)
              try simp only [Act.put, List.setIfInBounds_toArray, List.set_cons_zero, List.set_cons_succ]
              refine g_take (i := 12) (d := (some 129)) (v := ?_) rfl rfl (by kernel_rfl) (fun _ _ _ h => h) (by rfl) (fun w' hb' => ?_) ?_
              rotate_left
              · (try go_simp); (try with_reducible rfl)
              try simp only [Act.put, List.setIfInBounds_toArray, List.set_cons_zero, List.set_cons_succ]
              refine g_take (i := 13) (d := (some 130)) (v := ?_) rfl rfl (by kernel_rfl) (fun _ _ _ h => h) (by rfl) (fun w' hb' => ?_) ?_
              rotate_left
              · (try go_simp); (try with_reducible rfl)
              try simp only [Act.put, List.setIfInBounds_toArray, List.set_cons_zero, List.set_cons_succ]
              refine g_run (i := 14) rfl (by kernel_rfl) (by rfl) (fun K hK => ?_)
              go_simp; refine (RWO.out _ (RLH.out.below (Below.drew (Below.refl _ _)) (Nat.le_refl _))).mono ?_; rintro e wq ⟨vq, rfl, oq, gq⟩; have gq2 : Below w13.heap.size w13 wq := Below.trans (Below.drew (Below.refl _ _)) gq; refine hK _ _ ⟨gq, ?_⟩; clear hK K
              try simp only [Act.put, List.setIfInBounds_toArray, List.set_cons_zero, List.set_cons_succ]
              refine g_run (i := 15) rfl (by kernel_rfl) (by rfl) (fun K hK => ?_)
              go_simp; refine (refSame_yes (.slice aD (withoutL L K9).length cD) vq (withoutL L K9) wq (RDD.out.below (chain Q13 gq2) (Nat.le_refl _)) (OwnI.rd (w := w) oq) DL.out).mono ?_; rintro e w14 ⟨rfl, m14, hw14⟩; refine hK _ _ ⟨by rw [hw14]; exact below_drewN (Below.refl _ _), ?_⟩; clear hK K
              try simp only [Act.put, List.setIfInBounds_toArray, List.set_cons_zero, List.set_cons_succ]
              refine g_take (i := 16) (d := (some 133)) (v := ?_) rfl rfl (by kernel_rfl) (fun _ _ _ h => h) (by rfl) (fun w' hb' => ?_) ?_
              rotate_left
              · (try go_simp); (try with_reducible rfl)
              try simp only [Act.put, List.setIfInBounds_toArray, List.set_cons_zero, List.set_cons_succ]
              refine g_take (i := 17) (d := (some 134)) (v := ?_) rfl rfl (by kernel_rfl) (fun _ _ _ h => h) (by rfl) (fun w' hb' => ?_) ?_
              rotate_left
              · (try go_simp); (try with_reducible rfl)
              try simp only [Act.put, List.setIfInBounds_toArray, List.set_cons_zero, List.set_cons_succ]
              refine g_take (i := 18) (d := (some 135)) (v := ?_) rfl rfl (by kernel_rfl) (fun _ _ _ h => h) (by rfl) (fun w' hb' => ?_) ?_
              rotate_left
              · (try go_simp); (try with_reducible rfl)
              try simp only [Act.put, List.setIfInBounds_toArray, List.set_cons_zero, List.set_cons_succ]
              refine g_take (i := 19) (d := (some 136)) (v := ?_) rfl rfl (by kernel_rfl) (fun _ _ _ h => h) (by rfl) (fun w' hb' => ?_) ?_
              rotate_left
              · (try go_simp); (try with_reducible rfl)
              try simp only [Act.put, List.setIfInBounds_toArray, List.set_cons_zero, List.set_cons_succ]
              refine g_take (i := 20) (d := (some 137)) (v := ?_) rfl rfl (by kernel_rfl) (fun _ _ _ h => h) (by rfl) (fun w' hb' => ?_) ?_
              rotate_left
              · (try go_simp); (try with_reducible rfl)
              try simp only [Act.put, List.setIfInBounds_toArray, List.set_cons_zero, List.set_cons_succ]
              refine g_take (i := 21) (d := (some 138)) (v := ?_) rfl rfl (by kernel_rfl) (fun _ _ _ h => h) (by rfl) (fun w' hb' => ?_) ?_
              rotate_left
              · (try go_simp); (try with_reducible rfl)
              try simp only [Act.put, List.setIfInBounds_toArray, List.set_cons_zero, List.set_cons_succ]
              refine g_done (by kernel_rfl) ?_
              have g : Below w13.heap.size w13 w14 := by rw [hw14]; exact below_drewN gq2
              have x14 := (g.block _ (lt_of_block x13)).trans x13
              have s14 := (g.block _ (lt_of_block s13)).trans s13
              have B14 := chain B13 g
              have P14 := chain P13 g
              have Q14 := chain Q13 g
              clear g hw14 oq gq gq2 c0 c1 c2 c3 c4
              obtain ⟨xc0, xc1, xc2, xc3, xc4, xcz⟩ := block_cells5 x14
              have MYR := (refLeafMay_any X HX2.out.1 HX2.out.2).at w14 (T5.out.below B14)
              unfold itV at MYR
              rw [HMX.out] at MYR
              go_wp2_with fail
              refine (MYR).mono ?_
              rintro e w15 ⟨rfl, g⟩
              have x15 := (g.block _ (lt_of_block x14)).trans x14
              have s15 := (g.block _ (lt_of_block s14)).trans s14
              have B15 := chain B14 g
              skip
              have P15 := chain P14 g
              have Q15 := chain Q14 g
              clear g
              clear MYR
              obtain ⟨xc0, xc1, xc2, xc3, xc4, xcz⟩ := block_cells5 x15
              go_wp2_with fail
              refine ((AX.out _ (RDL.out.below B15 (Nat.le_refl _)))).mono ?_
              rintro e w' ⟨rfl, rfl⟩
              have RW := refWith_any _ L X w15 (RDL.out.below B15 (Nat.le_refl _)) HS.out HX2.out.1 h66
              unfold itV at RW
              go_wp2_with fail
              refine (RW).mono ?_
              rintro e w16 ⟨vW, rfl, oW, g⟩
              have x16 := (g.block _ (lt_of_block x15)).trans x15
              have s16 := (g.block _ (lt_of_block s15)).trans s15
              have B16 := chain B15 g
              skip
              have P16 := chain P15 g
              have Q16 := chain Q15 g
              clear g
              clear RW
              have SM2 := refSame_yes (.slice aP (withL L X).length cP) vW (withL L X) w16 (RDP.out.below P16 (Nat.le_refl _)) (OwnI.rd (w := w) oW) WL.out
              go_wp2_with fail
              refine SM2.mono ?_
              rintro e w17 ⟨rfl, m17, hw17⟩
              have g : Below w16.heap.size w16 w17 := by rw [hw17]; exact below_drewN (Below.refl _ _)
              have x17 := (g.block _ (lt_of_block x16)).trans x16
              have s17 := (g.block _ (lt_of_block s16)).trans s16
              have B17 := chain B16 g
              have P17 := chain P16 g
              have Q17 := chain Q16 g
              clear g hw17 SM2
              have AW := awake9_any.at _ (T5.out.below B17)
              go_wp2_with fail
              refine (AW).mono ?_
              rintro e w18 ⟨rfl, g⟩
              have x18 := (g.block _ (lt_of_block x17)).trans x17
              have s18 := (g.block _ (lt_of_block s17)).trans s17
              have B18 := chain B17 g
              clear g
              go_wp2_with fail
              go_ret
              exact ⟨rfl, chain B05.out B18⟩
    | false =>
      have hat : atL L K9 = none := at_none (isL_sorted hl) (found_no hf)
      obtain rfl : zI = G0 := by rw [HG.out]; unfold gI; rw [hl, hat]; rfl
      obtain rfl : false = b0 := by rw [HBB.out]; unfold gB; rw [hl, hat]; rfl
      have DE := Lib.hid (show ∀ W, TabAt W → RdI W (.slice (some ⟨gr, 0, none⟩) L.length cr) L → Calls Tryd.prog 20 #[.slice (some ⟨gr, 0, none⟩) L.length cr, .string (str K9)] W (OwnIE W [] 6) by
        have e1 : delE L K9 = 6 := by unfold delE; rw [hl, hf]; rfl
        have e2 : delR L K9 = [] := by unfold delR; rw [e1]; rfl
        rw [e1, e2] at DE0; exact DE0)
      have AK := Lib.hid (fun W h => refAt_no (.slice a3 L.length c3) L K9 W h hl hf)
      have NZ := fun W => (show (binOp .neq 32 (.agg #[.string (str zI.key), .int .i64 zI.v.k, .int .i64 zI.v.i, .string (str zI.v.s), .int .i64 zI.ver]) (.agg #[.string ⟨#[]⟩, .int .i64 0, .int .i64 0, .string ⟨#[]⟩, .int .i64 0])).run Tryd.prog W = .ok (.bool false) W from it_ne_same zI W)
      clear hf hat IS0 DE0 NG
      cases hmx : mayI X with
      | false =>
        have PU := Lib.hid (show ∀ W, TabAt W → RdI W (.slice (some ⟨gr, 0, none⟩) L.length cr) L → Calls Tryd.prog 19 #[.slice (some ⟨gr, 0, none⟩) L.length cr, .agg #[.string (str X.key), .int .i64 X.v.k, .int .i64 X.v.i, .string (str X.v.s), .int .i64 X.ver]] W (OwnIE W [] 1) by
          have e1 : putE L X = 1 := by unfold putE; rw [hl, hmx]; rfl
          have e2 : putR L X = [] := by unfold putR; rw [e1]; rfl
          rw [e1, e2] at PU0; exact PU0)
        have HMX := Lib.hid hmx
        clear hl hmx PU0
        as_aux_lemma =>
          go_wp2_with fail
          refine (GL.out _ (T5.out.below B7) (RIN.out.below B7 (Nat.le_refl _))).mono ?_
          rintro e w8 ⟨rfl, g⟩
          have x8 := (g.block _ (lt_of_block x7)).trans x7
          have B8 := chain B7 g
          clear g
          have a9 := (Below.refl w8.heap.size w8).alloc (Nat.le_refl _) (.cells #[.string (str zI.key), .int .i64 zI.v.k, .int .i64 zI.v.i, .string (str zI.v.s), .int .i64 zI.ver] 32)
          have x9 := (a9.block _ (lt_of_block x8)).trans x8
          have s9 := heap_alloc_new w8 (.cells #[.string (str zI.key), .int .i64 zI.v.k, .int .i64 zI.v.i, .string (str zI.v.s), .int .i64 zI.ver] 32)
          have B9 := chain B8 a9
          obtain ⟨xc0, xc1, xc2, xc3, xc4, xcz⟩ := block_cells5 x9
          go_wp2_with fail
          refine (PU.out _ (T5.out.below B9) (RIN.out.below B9 (Nat.le_refl _))).mono ?_
          rintro e w10 ⟨vP, rfl, oP, g⟩
          have x10 := (g.block _ (lt_of_block x9)).trans x9
          have s10 := (g.block _ (lt_of_block s9)).trans s9
          have B10 := chain B9 g
          clear g
          have hrP := OwnI.rd (w := w) oP
          obtain ⟨aP, cP, rfl, kP1, kP2⟩ := slice_of_rd hrP
          have RDP := Lib.hid hrP
          clear oP hrP
          have P10 := Below.refl w10.heap.size w10
          go_wp2_with fail
          refine (DE.out _ (T5.out.below B10) (RIN.out.below B10 (Nat.le_refl _))).mono ?_
          rintro e w11 ⟨vD, rfl, oD, g⟩
          have x11 := (g.block _ (lt_of_block x10)).trans x10
          have s11 := (g.block _ (lt_of_block s10)).trans s10
          have B11 := chain B10 g
          skip
          have P11 := chain P10 g
          clear g
          have hrD := OwnI.rd (w := w) oD
          obtain ⟨aD, cD, rfl, kD1, kD2⟩ := slice_of_rd hrD
          have RDD := Lib.hid hrD
          clear oD hrD
          have Q11 := Below.refl w11.heap.size w11
          have SM := refSame_yes (.slice (some ⟨gr, 0, none⟩) L.length cr) (.slice a3 L.length c3) L w11 (RIN.out.below B11 (Nat.le_refl _)) (RDL.out.below B11 (Nat.le_refl _)) (by omega)
          go_wp2_with fail
          refine SM.mono ?_
          rintro e w12 ⟨rfl, m12, hw12⟩
          have g : Below w11.heap.size w11 w12 := by rw [hw12]; exact below_drewN (Below.refl _ _)
          have x12 := (g.block _ (lt_of_block x11)).trans x11
          have s12 := (g.block _ (lt_of_block s11)).trans s11
          have B12 := chain B11 g
          have P12 := chain P11 g
          have Q12 := chain Q11 g
          clear g hw12 SM
          have rv := (B12.cell (p := ⟨gr, L.length * 5 + 4, none⟩) hgr).trans RV.out
          go_wp2_with fail
          refine (IS.out _ (T5.out.below B12) (RDL.out.below B12 (Nat.le_refl _))).mono ?_
          rintro e w13 ⟨rfl, g⟩
          have x13 := (g.block _ (lt_of_block x12)).trans x12
          have s13 := (g.block _ (lt_of_block s12)).trans s12
          have B13 := chain B12 g
          skip
          have P13 := chain P12 g
          have Q13 := chain Q12 g
          clear g
          obtain ⟨sc0, sc1, sc2, sc3, sc4, scz⟩ := block_cells5 s13
          go_wp2_with fail
          refine ((AK.out _ (RDL.out.below B13 (Nat.le_refl _)))).mono ?_
          rintro e w' ⟨rfl, rfl⟩
          obtain ⟨xc0, xc1, xc2, xc3, xc4, xcz⟩ := block_cells5 x13
          have MYR := (refLeafMay_any X HX2.out.1 HX2.out.2).at w13 (T5.out.below B13)
          unfold itV at MYR
          rw [HMX.out] at MYR
          go_wp2_with fail
          refine (MYR).mono ?_
          rintro e w14 ⟨rfl, g⟩
          have x14 := (g.block _ (lt_of_block x13)).trans x13
          have s14 := (g.block _ (lt_of_block s13)).trans s13
          have B14 := chain B13 g
          skip
          have P14 := chain P13 g
          have Q14 := chain Q13 g
          clear g
          clear MYR
          obtain ⟨xc0, xc1, xc2, xc3, xc4, xcz⟩ := block_cells5 x14
          have AW := awake9_any.at _ (T5.out.below B14)
          go_wp2_with fail
          refine (AW).mono ?_
          rintro e w15 ⟨rfl, g⟩
          have x15 := (g.block _ (lt_of_block x14)).trans x14
          have s15 := (g.block _ (lt_of_block s14)).trans s14
          have B15 := chain B14 g
          clear g
          go_wp2_with fail
          go_ret
          exact ⟨rfl, chain B05.out B15⟩
      | true =>
        have HMX := Lib.hid hmx
        cases hfx : foundL L X.key with
        | true =>
          have e1 : putE L X = 0 := by unfold putE; rw [hl, hmx, hfx]; rfl
          have PU := Lib.hid (show ∀ W, TabAt W → RdI W (.slice (some ⟨gr, 0, none⟩) L.length cr) L → Calls Tryd.prog 19 #[.slice (some ⟨gr, 0, none⟩) L.length cr, .agg #[.string (str X.key), .int .i64 X.v.k, .int .i64 X.v.i, .string (str X.v.s), .int .i64 X.ver]] W (OwnIE W (withL L X) 0) by
            have e2 : putR L X = withL L X := by unfold putR; rw [e1]; rfl
            rw [e1, e2] at PU0; exact PU0)
          have WL := Lib.hid (show (withL L X).length ≤ 100 from Nat.le_trans (with_len e1) (by decide))
          have AX := Lib.hid (fun W h => refAt_yes (.slice a3 L.length c3) L X.key W h hl hfx)
          have hpz : decide ((posL L X.key : Int) < 0) = false := by simp
          clear hl hmx PU0 hfx e1
          as_aux_lemma =>
            go_wp2_with fail
            refine (GL.out _ (T5.out.below B7) (RIN.out.below B7 (Nat.le_refl _))).mono ?_
            rintro e w8 ⟨rfl, g⟩
            have x8 := (g.block _ (lt_of_block x7)).trans x7
            have B8 := chain B7 g
            clear g
            have a9 := (Below.refl w8.heap.size w8).alloc (Nat.le_refl _) (.cells #[.string (str zI.key), .int .i64 zI.v.k, .int .i64 zI.v.i, .string (str zI.v.s), .int .i64 zI.ver] 32)
            have x9 := (a9.block _ (lt_of_block x8)).trans x8
            have s9 := heap_alloc_new w8 (.cells #[.string (str zI.key), .int .i64 zI.v.k, .int .i64 zI.v.i, .string (str zI.v.s), .int .i64 zI.ver] 32)
            have B9 := chain B8 a9
            obtain ⟨xc0, xc1, xc2, xc3, xc4, xcz⟩ := block_cells5 x9
            go_wp2_with fail
            refine (PU.out _ (T5.out.below B9) (RIN.out.below B9 (Nat.le_refl _))).mono ?_
            rintro e w10 ⟨vP, rfl, oP, g⟩
            have x10 := (g.block _ (lt_of_block x9)).trans x9
            have s10 := (g.block _ (lt_of_block s9)).trans s9
            have B10 := chain B9 g
            clear g
            have hrP := OwnI.rd (w := w) oP
            obtain ⟨aP, cP, rfl, kP1, kP2⟩ := slice_of_rd hrP
            have RDP := Lib.hid hrP
            clear oP hrP
            have P10 := Below.refl w10.heap.size w10
            go_wp2_with fail
            refine (DE.out _ (T5.out.below B10) (RIN.out.below B10 (Nat.le_refl _))).mono ?_
            rintro e w11 ⟨vD, rfl, oD, g⟩
            have x11 := (g.block _ (lt_of_block x10)).trans x10
            have s11 := (g.block _ (lt_of_block s10)).trans s10
            have B11 := chain B10 g
            skip
            have P11 := chain P10 g
            clear g
            have hrD := OwnI.rd (w := w) oD
            obtain ⟨aD, cD, rfl, kD1, kD2⟩ := slice_of_rd hrD
            have RDD := Lib.hid hrD
            clear oD hrD
            have Q11 := Below.refl w11.heap.size w11
            have SM := refSame_yes (.slice (some ⟨gr, 0, none⟩) L.length cr) (.slice a3 L.length c3) L w11 (RIN.out.below B11 (Nat.le_refl _)) (RDL.out.below B11 (Nat.le_refl _)) (by omega)
            go_wp2_with fail
            refine SM.mono ?_
            rintro e w12 ⟨rfl, m12, hw12⟩
            have g : Below w11.heap.size w11 w12 := by rw [hw12]; exact below_drewN (Below.refl _ _)
            have x12 := (g.block _ (lt_of_block x11)).trans x11
            have s12 := (g.block _ (lt_of_block s11)).trans s11
            have B12 := chain B11 g
            have P12 := chain P11 g
            have Q12 := chain Q11 g
            clear g hw12 SM
            have rv := (B12.cell (p := ⟨gr, L.length * 5 + 4, none⟩) hgr).trans RV.out
            go_wp2_with fail
            refine (IS.out _ (T5.out.below B12) (RDL.out.below B12 (Nat.le_refl _))).mono ?_
            rintro e w13 ⟨rfl, g⟩
            have x13 := (g.block _ (lt_of_block x12)).trans x12
            have s13 := (g.block _ (lt_of_block s12)).trans s12
            have B13 := chain B12 g
            skip
            have P13 := chain P12 g
            have Q13 := chain Q12 g
            clear g
            obtain ⟨sc0, sc1, sc2, sc3, sc4, scz⟩ := block_cells5 s13
            go_wp2_with fail
            refine ((AK.out _ (RDL.out.below B13 (Nat.le_refl _)))).mono ?_
            rintro e w' ⟨rfl, rfl⟩
            obtain ⟨xc0, xc1, xc2, xc3, xc4, xcz⟩ := block_cells5 x13
            have MYR := (refLeafMay_any X HX2.out.1 HX2.out.2).at w13 (T5.out.below B13)
            unfold itV at MYR
            rw [HMX.out] at MYR
            go_wp2_with fail
            refine (MYR).mono ?_
            rintro e w14 ⟨rfl, g⟩
            have x14 := (g.block _ (lt_of_block x13)).trans x13
            have s14 := (g.block _ (lt_of_block s13)).trans s13
            have B14 := chain B13 g
            skip
            have P14 := chain P13 g
            have Q14 := chain Q13 g
            clear g
            clear MYR
            obtain ⟨xc0, xc1, xc2, xc3, xc4, xcz⟩ := block_cells5 x14
            go_wp2_with fail
            refine ((AX.out _ (RDL.out.below B14 (Nat.le_refl _)))).mono ?_
            rintro e w' ⟨rfl, rfl⟩
            have RW := refWith_any _ L X w14 (RDL.out.below B14 (Nat.le_refl _)) HS.out HX2.out.1 h66
            unfold itV at RW
            go_wp2_with fail
            refine (RW).mono ?_
            rintro e w15 ⟨vW, rfl, oW, g⟩
            have x15 := (g.block _ (lt_of_block x14)).trans x14
            have s15 := (g.block _ (lt_of_block s14)).trans s14
            have B15 := chain B14 g
            skip
            have P15 := chain P14 g
            have Q15 := chain Q14 g
            clear g
            clear RW
            have SM2 := refSame_yes (.slice aP (withL L X).length cP) vW (withL L X) w15 (RDP.out.below P15 (Nat.le_refl _)) (OwnI.rd (w := w) oW) WL.out
            go_wp2_with fail
            refine SM2.mono ?_
            rintro e w16 ⟨rfl, m16, hw16⟩
            have g : Below w15.heap.size w15 w16 := by rw [hw16]; exact below_drewN (Below.refl _ _)
            have x16 := (g.block _ (lt_of_block x15)).trans x15
            have s16 := (g.block _ (lt_of_block s15)).trans s15
            have B16 := chain B15 g
            have P16 := chain P15 g
            have Q16 := chain Q15 g
            clear g hw16 SM2
            have AW := awake9_any.at _ (T5.out.below B16)
            go_wp2_with fail
            refine (AW).mono ?_
            rintro e w17 ⟨rfl, g⟩
            have x17 := (g.block _ (lt_of_block x16)).trans x16
            have s17 := (g.block _ (lt_of_block s16)).trans s16
            have B17 := chain B16 g
            clear g
            go_wp2_with fail
            go_ret
            exact ⟨rfl, chain B05.out B17⟩
        | false =>
          have AX := Lib.hid (fun W h => refAt_no (.slice a3 L.length c3) L X.key W h hl hfx)
          by_cases h6 : L.length = 64
          · have PU := Lib.hid (show ∀ W, TabAt W → RdI W (.slice (some ⟨gr, 0, none⟩) L.length cr) L → Calls Tryd.prog 19 #[.slice (some ⟨gr, 0, none⟩) L.length cr, .agg #[.string (str X.key), .int .i64 X.v.k, .int .i64 X.v.i, .string (str X.v.s), .int .i64 X.ver]] W (OwnIE W [] 5) by
              have e1 : putE L X = 5 := by unfold putE; rw [hl, hmx, hfx]; simp [h6]
              have e2 : putR L X = [] := by unfold putR; rw [e1]; rfl
              rw [e1, e2] at PU0; exact PU0)
            have k64 : ((L.length : Int) == 64) = true := by simp [h6]
            have H6 := Lib.hid h6
            clear hl hmx PU0 hfx h6
            as_aux_lemma =>
              go_wp2_with fail
              refine (GL.out _ (T5.out.below B7) (RIN.out.below B7 (Nat.le_refl _))).mono ?_
              rintro e w8 ⟨rfl, g⟩
              have x8 := (g.block _ (lt_of_block x7)).trans x7
              have B8 := chain B7 g
              clear g
              have a9 := (Below.refl w8.heap.size w8).alloc (Nat.le_refl _) (.cells #[.string (str zI.key), .int .i64 zI.v.k, .int .i64 zI.v.i, .string (str zI.v.s), .int .i64 zI.ver] 32)
              have x9 := (a9.block _ (lt_of_block x8)).trans x8
              have s9 := heap_alloc_new w8 (.cells #[.string (str zI.key), .int .i64 zI.v.k, .int .i64 zI.v.i, .string (str zI.v.s), .int .i64 zI.ver] 32)
              have B9 := chain B8 a9
              obtain ⟨xc0, xc1, xc2, xc3, xc4, xcz⟩ := block_cells5 x9
              go_wp2_with fail
              refine (PU.out _ (T5.out.below B9) (RIN.out.below B9 (Nat.le_refl _))).mono ?_
              rintro e w10 ⟨vP, rfl, oP, g⟩
              have x10 := (g.block _ (lt_of_block x9)).trans x9
              have s10 := (g.block _ (lt_of_block s9)).trans s9
              have B10 := chain B9 g
              clear g
              have hrP := OwnI.rd (w := w) oP
              obtain ⟨aP, cP, rfl, kP1, kP2⟩ := slice_of_rd hrP
              have RDP := Lib.hid hrP
              clear oP hrP
              have P10 := Below.refl w10.heap.size w10
              go_wp2_with fail
              refine (DE.out _ (T5.out.below B10) (RIN.out.below B10 (Nat.le_refl _))).mono ?_
              rintro e w11 ⟨vD, rfl, oD, g⟩
              have x11 := (g.block _ (lt_of_block x10)).trans x10
              have s11 := (g.block _ (lt_of_block s10)).trans s10
              have B11 := chain B10 g
              skip
              have P11 := chain P10 g
              clear g
              have hrD := OwnI.rd (w := w) oD
              obtain ⟨aD, cD, rfl, kD1, kD2⟩ := slice_of_rd hrD
              have RDD := Lib.hid hrD
              clear oD hrD
              have Q11 := Below.refl w11.heap.size w11
              have SM := refSame_yes (.slice (some ⟨gr, 0, none⟩) L.length cr) (.slice a3 L.length c3) L w11 (RIN.out.below B11 (Nat.le_refl _)) (RDL.out.below B11 (Nat.le_refl _)) (by omega)
              go_wp2_with fail
              refine SM.mono ?_
              rintro e w12 ⟨rfl, m12, hw12⟩
              have g : Below w11.heap.size w11 w12 := by rw [hw12]; exact below_drewN (Below.refl _ _)
              have x12 := (g.block _ (lt_of_block x11)).trans x11
              have s12 := (g.block _ (lt_of_block s11)).trans s11
              have B12 := chain B11 g
              have P12 := chain P11 g
              have Q12 := chain Q11 g
              clear g hw12 SM
              have rv := (B12.cell (p := ⟨gr, L.length * 5 + 4, none⟩) hgr).trans RV.out
              go_wp2_with fail
              refine (IS.out _ (T5.out.below B12) (RDL.out.below B12 (Nat.le_refl _))).mono ?_
              rintro e w13 ⟨rfl, g⟩
              have x13 := (g.block _ (lt_of_block x12)).trans x12
              have s13 := (g.block _ (lt_of_block s12)).trans s12
              have B13 := chain B12 g
              skip
              have P13 := chain P12 g
              have Q13 := chain Q12 g
              clear g
              obtain ⟨sc0, sc1, sc2, sc3, sc4, scz⟩ := block_cells5 s13
              go_wp2_with fail
              refine ((AK.out _ (RDL.out.below B13 (Nat.le_refl _)))).mono ?_
              rintro e w' ⟨rfl, rfl⟩
              obtain ⟨xc0, xc1, xc2, xc3, xc4, xcz⟩ := block_cells5 x13
              have MYR := (refLeafMay_any X HX2.out.1 HX2.out.2).at w13 (T5.out.below B13)
              unfold itV at MYR
              rw [HMX.out] at MYR
              go_wp2_with fail
              refine (MYR).mono ?_
              rintro e w14 ⟨rfl, g⟩
              have x14 := (g.block _ (lt_of_block x13)).trans x13
              have s14 := (g.block _ (lt_of_block s13)).trans s13
              have B14 := chain B13 g
              skip
              have P14 := chain P13 g
              have Q14 := chain Q13 g
              clear g
              clear MYR
              obtain ⟨xc0, xc1, xc2, xc3, xc4, xcz⟩ := block_cells5 x14
              go_wp2_with fail
              refine ((AX.out _ (RDL.out.below B14 (Nat.le_refl _)))).mono ?_
              rintro e w' ⟨rfl, rfl⟩
              have AW := awake9_any.at _ (T5.out.below B14)
              go_wp2_with fail
              refine (AW).mono ?_
              rintro e w15 ⟨rfl, g⟩
              have x15 := (g.block _ (lt_of_block x14)).trans x14
              have s15 := (g.block _ (lt_of_block s14)).trans s14
              have B15 := chain B14 g
              clear g
              go_wp2_with fail
              go_ret
              exact ⟨rfl, chain B05.out B15⟩
          · have e1 : putE L X = 0 := by unfold putE; rw [hl, hmx, hfx]; simp [h6]
            have PU := Lib.hid (show ∀ W, TabAt W → RdI W (.slice (some ⟨gr, 0, none⟩) L.length cr) L → Calls Tryd.prog 19 #[.slice (some ⟨gr, 0, none⟩) L.length cr, .agg #[.string (str X.key), .int .i64 X.v.k, .int .i64 X.v.i, .string (str X.v.s), .int .i64 X.ver]] W (OwnIE W (withL L X) 0) by
              have e2 : putR L X = withL L X := by unfold putR; rw [e1]; rfl
              rw [e1, e2] at PU0; exact PU0)
            have WL := Lib.hid (show (withL L X).length ≤ 100 from Nat.le_trans (with_len e1) (by decide))
            have k64 : ((L.length : Int) == 64) = false := by simp; omega
            have H6 := Lib.hid h6
            clear hl hmx PU0 hfx e1 h6
            as_aux_lemma =>
              go_wp2_with fail
              refine (GL.out _ (T5.out.below B7) (RIN.out.below B7 (Nat.le_refl _))).mono ?_
              rintro e w8 ⟨rfl, g⟩
              have x8 := (g.block _ (lt_of_block x7)).trans x7
              have B8 := chain B7 g
              clear g
              have a9 := (Below.refl w8.heap.size w8).alloc (Nat.le_refl _) (.cells #[.string (str zI.key), .int .i64 zI.v.k, .int .i64 zI.v.i, .string (str zI.v.s), .int .i64 zI.ver] 32)
              have x9 := (a9.block _ (lt_of_block x8)).trans x8
              have s9 := heap_alloc_new w8 (.cells #[.string (str zI.key), .int .i64 zI.v.k, .int .i64 zI.v.i, .string (str zI.v.s), .int .i64 zI.ver] 32)
              have B9 := chain B8 a9
              obtain ⟨xc0, xc1, xc2, xc3, xc4, xcz⟩ := block_cells5 x9
              go_wp2_with fail
              refine (PU.out _ (T5.out.below B9) (RIN.out.below B9 (Nat.le_refl _))).mono ?_
              rintro e w10 ⟨vP, rfl, oP, g⟩
              have x10 := (g.block _ (lt_of_block x9)).trans x9
              have s10 := (g.block _ (lt_of_block s9)).trans s9
              have B10 := chain B9 g
              clear g
              have hrP := OwnI.rd (w := w) oP
              obtain ⟨aP, cP, rfl, kP1, kP2⟩ := slice_of_rd hrP
              have RDP := Lib.hid hrP
              clear oP hrP
              have P10 := Below.refl w10.heap.size w10
              go_wp2_with fail
              refine (DE.out _ (T5.out.below B10) (RIN.out.below B10 (Nat.le_refl _))).mono ?_
              rintro e w11 ⟨vD, rfl, oD, g⟩
              have x11 := (g.block _ (lt_of_block x10)).trans x10
              have s11 := (g.block _ (lt_of_block s10)).trans s10
              have B11 := chain B10 g
              skip
              have P11 := chain P10 g
              clear g
              have hrD := OwnI.rd (w := w) oD
              obtain ⟨aD, cD, rfl, kD1, kD2⟩ := slice_of_rd hrD
              have RDD := Lib.hid hrD
              clear oD hrD
              have Q11 := Below.refl w11.heap.size w11
              have SM := refSame_yes (.slice (some ⟨gr, 0, none⟩) L.length cr) (.slice a3 L.length c3) L w11 (RIN.out.below B11 (Nat.le_refl _)) (RDL.out.below B11 (Nat.le_refl _)) (by omega)
              go_wp2_with fail
              refine SM.mono ?_
              rintro e w12 ⟨rfl, m12, hw12⟩
              have g : Below w11.heap.size w11 w12 := by rw [hw12]; exact below_drewN (Below.refl _ _)
              have x12 := (g.block _ (lt_of_block x11)).trans x11
              have s12 := (g.block _ (lt_of_block s11)).trans s11
              have B12 := chain B11 g
              have P12 := chain P11 g
              have Q12 := chain Q11 g
              clear g hw12 SM
              have rv := (B12.cell (p := ⟨gr, L.length * 5 + 4, none⟩) hgr).trans RV.out
              go_wp2_with fail
              refine (IS.out _ (T5.out.below B12) (RDL.out.below B12 (Nat.le_refl _))).mono ?_
              rintro e w13 ⟨rfl, g⟩
              have x13 := (g.block _ (lt_of_block x12)).trans x12
              have s13 := (g.block _ (lt_of_block s12)).trans s12
              have B13 := chain B12 g
              skip
              have P13 := chain P12 g
              have Q13 := chain Q12 g
              clear g
              obtain ⟨sc0, sc1, sc2, sc3, sc4, scz⟩ := block_cells5 s13
              go_wp2_with fail
              refine ((AK.out _ (RDL.out.below B13 (Nat.le_refl _)))).mono ?_
              rintro e w' ⟨rfl, rfl⟩
              obtain ⟨xc0, xc1, xc2, xc3, xc4, xcz⟩ := block_cells5 x13
              have MYR := (refLeafMay_any X HX2.out.1 HX2.out.2).at w13 (T5.out.below B13)
              unfold itV at MYR
              rw [HMX.out] at MYR
              go_wp2_with fail
              refine (MYR).mono ?_
              rintro e w14 ⟨rfl, g⟩
              have x14 := (g.block _ (lt_of_block x13)).trans x13
              have s14 := (g.block _ (lt_of_block s13)).trans s13
              have B14 := chain B13 g
              skip
              have P14 := chain P13 g
              have Q14 := chain Q13 g
              clear g
              clear MYR
              obtain ⟨xc0, xc1, xc2, xc3, xc4, xcz⟩ := block_cells5 x14
              go_wp2_with fail
              refine ((AX.out _ (RDL.out.below B14 (Nat.le_refl _)))).mono ?_
              rintro e w' ⟨rfl, rfl⟩
              have RW := refWith_any _ L X w14 (RDL.out.below B14 (Nat.le_refl _)) HS.out HX2.out.1 h66
              unfold itV at RW
              go_wp2_with fail
              refine (RW).mono ?_
              rintro e w15 ⟨vW, rfl, oW, g⟩
              have x15 := (g.block _ (lt_of_block x14)).trans x14
              have s15 := (g.block _ (lt_of_block s14)).trans s14
              have B15 := chain B14 g
              skip
              have P15 := chain P14 g
              have Q15 := chain Q14 g
              clear g
              clear RW
              have SM2 := refSame_yes (.slice aP (withL L X).length cP) vW (withL L X) w15 (RDP.out.below P15 (Nat.le_refl _)) (OwnI.rd (w := w) oW) WL.out
              go_wp2_with fail
              refine SM2.mono ?_
              rintro e w16 ⟨rfl, m16, hw16⟩
              have g : Below w15.heap.size w15 w16 := by rw [hw16]; exact below_drewN (Below.refl _ _)
              have x16 := (g.block _ (lt_of_block x15)).trans x15
              have s16 := (g.block _ (lt_of_block s15)).trans s15
              have B16 := chain B15 g
              have P16 := chain P15 g
              have Q16 := chain Q15 g
              clear g hw16 SM2
              have AW := awake9_any.at _ (T5.out.below B16)
              go_wp2_with fail
              refine (AW).mono ?_
              rintro e w17 ⟨rfl, g⟩
              have x17 := (g.block _ (lt_of_block x16)).trans x16
              have s17 := (g.block _ (lt_of_block s16)).trans s16
              have B17 := chain B16 g
              clear g
              go_wp2_with fail
              go_ret
              exact ⟨rfl, chain B05.out B17⟩
end Go.Proofs.YtcehgfganjdghaaDoor
