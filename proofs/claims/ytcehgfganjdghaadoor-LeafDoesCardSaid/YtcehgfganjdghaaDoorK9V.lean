/- The law LeafKeeps. Written by wip/tools/gen9v.py. -/
import Derived.Test.YtcehgfganjdghaaDoorK9T
import Derived.Test.YtcehgfganjdghaaDoorK9N
import Derived.Test.YtcehgfganjdghaaDoorRegU
namespace Go.Proofs.YtcehgfganjdghaaDoor
open Go Go.RowKit
set_option linter.unusedVariables false
set_option linter.unusedSimpArgs false
set_option maxRecDepth 100000
theorem own_put5 {w : World} {b B : Nat} {e : TypeId} {size : Nat} {v : Value} {n : Nat} {xs : List Value} (u0 u1 u2 u3 u4 : Value) (h : w.ownsRow b e size v n xs) (hB : B < b) : (((((w.setCell ⟨B, 0, none⟩ u0).setCell ⟨B, 1, none⟩ u1).setCell ⟨B, 2, none⟩ u2).setCell ⟨B, 3, none⟩ u3).setCell ⟨B, 4, none⟩ u4).ownsRow b e size v n xs := by
  refine ⟨h.1, ?_⟩
  rcases h.2 with h1 | ⟨g, cap, cur, rfl, h2, h3, h4⟩
  · exact .inl h1
  · refine .inr ⟨g, cap, cur, rfl, h2, ?_, h4⟩
    rw [set_old (by omega), set_old (by omega), set_old (by omega), set_old (by omega), set_old (by omega)]; exact h3
theorem get_of (l : List It) (k : List UInt8) (hsz : SzI l) (g : It) (b : Bool) (hg : gI l k = g) (hb : gB l k = b) (ao : Option Addr) (cap : Nat) (W : World) (t : TabAt W) (h : RdI W (.slice ao l.length cap) l) :
    Calls Tryd.prog 18 #[.slice ao l.length cap, .string (str k)] W fun e w' => e = .returned (.tuple #[.agg #[.string (str g.key), .int .i64 g.v.k, .int .i64 g.v.i, .string (str g.v.s), .int .i64 g.ver], .bool b]) ∧ Below W.heap.size W w' := by
  have := lget_any (.slice ao l.length cap) l k W t h hsz
  rw [getT_of, hg, hb] at this
  exact this
theorem with_sz {l : List It} {x : It} (h : SzI l) (hx : x.key.length ≤ maxLen ∧ x.v.s.length ≤ maxLen) : SzI (withL l x) := by
  intro y hy
  rcases with_mem.1 hy with ⟨h1, _⟩ | rfl | ⟨h1, _⟩
  · exact h y h1
  · exact hx
  · exact h y h1
theorem without_sz {l : List It} {k : List UInt8} (h : SzI l) : SzI (withoutL l k) := fun y hy => h y (List.mem_filter.1 hy).1
set_option maxHeartbeats 8000000 in
theorem keeps_row (v : Value) (l : List It) (x : It) (k : List UInt8) (w : World) (h : RdI w v l) (hsz : SzI l) (hwf : WfI l) (hxk : x.key.length ≤ maxLen) (hxs : x.v.s.length ≤ maxLen) (hxi : I64 x.v.i) (hk : k.length ≤ maxLen) (tab : TabAt w) :
    Calls Tryd.prog 8 #[v, itV x, .string (str k)] w fun e w' => e = .returned (.bool true) ∧ Below w.heap.size w w' := by
  have FW0 := fun W (h : RdI W v l) => few9_any v l W h hsz
  obtain ⟨L, hL⟩ : ∃ L, L = fewL l := ⟨_, rfl⟩
  have hszL : SzI L := by rw [hL]; exact fewL_sz hsz
  have HS := Lib.hid hszL
  have h66 : L.length ≤ 66 := by rw [hL]; exact fewL_len l
  simp only [← hL] at FW0
  have FW := Lib.hid FW0
  obtain ⟨X, hX⟩ : ∃ X, X = oneI x := ⟨_, rfl⟩
  have hXk : X.key.length ≤ maxLen := by rw [hX]; unfold oneI maxLen; simp; omega
  have hXs : X.v.s.length ≤ maxLen := by rw [hX]; unfold oneI maxLen; simp; omega
  have ONE0 := fun W => one9_any x W hxk hxs
  rw [← hX] at ONE0
  unfold itV at ONE0 ⊢
  have ONE := Lib.hid ONE0
  obtain ⟨K9, hK9⟩ : ∃ K9, K9 = k.take 60 := ⟨_, rfl⟩
  have SH0 := fun W => short_any k W hk
  rw [← hK9] at SH0
  have SH := Lib.hid SH0
  obtain ⟨av, cv, rfl, kv1, kv2⟩ := slice_of_rd h
  have q0 := heap_alloc_new w (.cells #[.string (str x.key), .int .i64 x.v.k, .int .i64 x.v.i, .string (str x.v.s), .int .i64 x.ver] 32)
  have B0 := (Below.refl w.heap.size w).alloc (Nat.le_refl _) (.cells #[.string (str x.key), .int .i64 x.v.k, .int .i64 x.v.i, .string (str x.v.s), .int .i64 x.ver] 32)
  have HR0 := Lib.hid (h.below B0 (Nat.le_refl _))
  have z0 : (w.alloc (.cells #[.string (str x.key), .int .i64 x.v.k, .int .i64 x.v.i, .string (str x.v.s), .int .i64 x.ver] 32)).heap.size = w.heap.size + 1 := by rw [World.size_alloc]
  have Z0 := Lib.hid z0
  -- what is known of the lists
  obtain ⟨G0, hG0⟩ : ∃ G, G = gI L K9 := ⟨_, rfl⟩
  obtain ⟨b0, hb0⟩ : ∃ b, b = gB L K9 := ⟨_, rfl⟩
  have GL1 := get_of L K9 hszL G0 b0 hG0.symm hb0.symm
  have PU1 := fun ao cap W t h => lput_any (.slice ao L.length cap) L X W t h hszL hXk hXs
  have DE1 := fun ao cap W t h => ldel_any (.slice ao L.length cap) L X.key W t h hszL
  have hbb : (b0 != b0) = false := by simp
  have NX := fun W => it_ne_same X W
  have NG := fun W => it_ne_same G0 W
  unfold itV at PU1 NX NG
  have HX2 := Lib.hid (And.intro hXk hXs)
  have HG := Lib.hid hG0
  have HBB := Lib.hid hb0
  clear hL h hsz hwf FW0 hX ONE0 SH0 hK9 hxi z0 hG0 hb0 hszL
  go_enter Tryd.func8, Tryd.ntmps8
  go_wp2_with fail
  refine t_start 6 (by kernel_rfl) ?_
  refine t_take (i := 0) (d := (some 21)) (v := ?_) rfl rfl (by kernel_rfl) (fun _ _ _ h => h) (by rfl) (fun w' hb' => ?_) ?_
  rotate_left
  · (try go_simp); (try with_reducible rfl)
  try simp only [Act.put, List.setIfInBounds_toArray, List.set_cons_zero, List.set_cons_succ]
  refine t_take (i := 2) (d := (some 23)) (v := ?_) rfl rfl (by kernel_rfl) (fun _ _ _ h => h) (by rfl) (fun w' hb' => ?_) ?_
  rotate_left
  · obtain ⟨d0, d1, d2, d3, d4, dz⟩ := block_cells5 ((hb'.block _ (lt_of_block q0)).trans q0); (try go_simp); (try with_reducible rfl)
  try simp only [Act.put, List.setIfInBounds_toArray, List.set_cons_zero, List.set_cons_succ]
  refine t_take (i := 4) (d := (some 25)) (v := ?_) rfl rfl (by kernel_rfl) (fun _ _ _ h => h) (by rfl) (fun w' hb' => ?_) ?_
  rotate_left
  · (try go_simp); (try with_reducible rfl)
  try simp only [Act.put, List.setIfInBounds_toArray, List.set_cons_zero, List.set_cons_succ]
  refine t_run (i := 1) rfl (by kernel_rfl) (by kernel_rfl) (by rfl) (fun K hK => ?_)
  go_simp
  refine (FW.out _ (HR0.out.below (Below.refl _ _).drew (Nat.le_refl _))).mono ?_
  rintro e w3 ⟨v3, rfl, o3, b3⟩
  obtain ⟨a3, c3, rfl, k3, k4⟩ := slice_of_rd (OwnI.rd (w := w) o3)
  have q3 := (b3.block _ (lt_of_block q0)).trans q0
  refine hK _ _ ⟨b3, ?_⟩
  clear hK K
  try simp only [Act.put, List.setIfInBounds_toArray, List.set_cons_zero, List.set_cons_succ]
  refine t_run (i := 3) rfl (by kernel_rfl) (by kernel_rfl) (by rfl) (fun K hK => ?_)
  go_simp
  refine (ONE.out _).mono ?_
  rintro e w4 ⟨rfl, b4⟩
  have q4 := (b4.block _ (lt_of_block q3)).trans q3
  refine hK _ _ ⟨b4, ?_⟩
  clear hK K
  try simp only [Act.put, List.setIfInBounds_toArray, List.set_cons_zero, List.set_cons_succ]
  refine t_run (i := 5) rfl (by kernel_rfl) (by kernel_rfl) (by rfl) (fun K hK => ?_)
  go_simp
  refine (SH.out _).mono ?_
  rintro e w4' ⟨rfl, rfl⟩
  refine hK _ _ ⟨Below.refl _ _, ?_⟩
  clear hK K
  try simp only [Act.put, List.setIfInBounds_toArray, List.set_cons_zero, List.set_cons_succ]
  refine t_into ?_
  refine t_tail (i := 6) rfl (by kernel_rfl) (by kernel_rfl) (by rfl) (fun K hK => ?_)
  go_simp
  refine hK _ _ ?_
  clear hK K
  try simp only [Act.put, List.setIfInBounds_toArray, List.set_cons_zero, List.set_cons_succ]
  refine t_tail (i := 7) rfl (by kernel_rfl) (by kernel_rfl) (by rfl) (fun K hK => ?_)
  obtain ⟨d0, d1, d2, d3, d4, dz⟩ := block_cells5 q4
  have hl4 := lt_of_block q4
  go_simp
  refine hK _ _ ?_
  clear hK K d0 d1 d2 d3 d4 dz hl4
  have x5 := put5 (.string (str X.key)) (.int .i64 X.v.k) (.int .i64 X.v.i) (.string (str X.v.s)) (.int .i64 X.ver) q4
  obtain ⟨w5, hw5⟩ : ∃ W, W = (((((w4.setCell ⟨w.heap.size, 0, none⟩ (.string (str X.key))).setCell ⟨w.heap.size, 1, none⟩ (.int .i64 X.v.k)).setCell ⟨w.heap.size, 2, none⟩ (.int .i64 X.v.i)).setCell ⟨w.heap.size, 3, none⟩ (.string (str X.v.s))).setCell ⟨w.heap.size, 4, none⟩ (.int .i64 X.ver)) := ⟨_, rfl⟩
  rw [← hw5] at x5
  change wpO _ _ _ _ _ _ _ (((((w4.setCell ⟨w.heap.size, 0, none⟩ (.string (str X.key))).setCell ⟨w.heap.size, 1, none⟩ (.int .i64 X.v.k)).setCell ⟨w.heap.size, 2, none⟩ (.int .i64 X.v.i)).setCell ⟨w.heap.size, 3, none⟩ (.string (str X.v.s))).setCell ⟨w.heap.size, 4, none⟩ (.int .i64 X.ver))
  rw [← hw5]
  have HW5 := Lib.hid hw5
  clear hw5
  try simp only [Act.put, List.setIfInBounds_toArray, List.set_cons_zero, List.set_cons_succ]
  refine t_tail (i := 8) rfl (by kernel_rfl) (by kernel_rfl) (by rfl) (fun K hK => ?_)
  go_simp
  refine hK _ _ ?_
  clear hK K
  try simp only [Act.put, List.setIfInBounds_toArray, List.set_cons_zero, List.set_cons_succ]
  refine t_over (by kernel_rfl) ?_

  have b35 : Below w.heap.size w w4 := chain (chain (Below.drew B0) b3) b4
  have B05 := Lib.hid (show Below w.heap.size w w5 by rw [HW5.out]; exact put5_below _ _ _ _ _ b35 (Nat.le_refl _))
  have own5 : w5.ownsRow (w.heap.size + 1) 32 5 (.slice a3 L.length c3) L.length (L.flatMap itC) := by
    have o4 := own_keep o3 b4
    rw [HW5.out]
    exact own_put5 _ _ _ _ _ (by have e := Z0.out; have h := o4; rw [show (w.alloc (.cells #[.string (str x.key), .int .i64 x.v.k, .int .i64 x.v.i, .string (str x.v.s), .int .i64 x.ver] 32)).drew.heap.size = (w.alloc (.cells #[.string (str x.key), .int .i64 x.v.k, .int .i64 x.v.i, .string (str x.v.s), .int .i64 x.ver] 32)).heap.size from rfl, e] at h; exact h) (by omega)
  have RDL := Lib.hid (OwnI.rd (w := w) own5)
  have T5 := Lib.hid (tab.below B05.out)
  have B5 := Below.refl w5.heap.size w5
  have GL := Lib.hid (GL1 a3 c3)
  have PU0 := PU1 a3 c3
  have DE0 := DE1 a3 c3
  clear o3 q0 q3 q4 b3 b4 b35 own5 GL1 PU1 DE1 HR0 FW ONE SH
  by_cases hkx : K9 = X.key
  · have kx : ((str K9).toList != (str X.key).toList) = false := by rw [ne_str]; simp [hkx]
    have kx2 : ((str K9).toList == (str X.key).toList) = true := by rw [eq_str]; simp [hkx]
    have HKN := Lib.hid hkx
    clear hkx
    by_cases hp0 : putE L X = 0
    · skip
      obtain ⟨A, hA⟩ : ∃ A, A = withL L X := ⟨_, rfl⟩
      have szA : SzI A := by rw [hA]; exact with_sz HS.out HX2.out
      have PU := Lib.hid (show ∀ W, TabAt W → RdI W (.slice a3 L.length c3) L → Calls Tryd.prog 19 #[.slice a3 L.length c3, .agg #[.string (str X.key), .int .i64 X.v.k, .int .i64 X.v.i, .string (str X.v.s), .int .i64 X.ver]] W (OwnIE W A 0) by
        have e1 : putR L X = A := by unfold putR; rw [if_pos hp0, hA]
        rw [hp0, e1] at PU0; exact PU0)
      have isA : isL A = true := by rw [hA]; exact with_is hp0
      have GAX := Lib.hid (get_of A X.key szA X true (by unfold gI; rw [if_pos isA, hA, with_at hp0]; rfl) (by unfold gB; rw [isA, hA, with_at hp0]; rfl))
      have IA := Lib.hid (show ∀ (ao : Option Addr) (cap : Nat) W, TabAt W → RdI W (.slice ao A.length cap) A → Calls Tryd.prog 35 #[.slice ao A.length cap] W fun e w' => e = .returned (.bool true) ∧ Below W.heap.size W w' by
        intro ao cap W t h
        have := lawIs9_any (.slice ao A.length cap) A W t h szA
        rw [isA] at this; exact this)
      obtain ⟨ZZ, hZ⟩ : ∃ Z, Z = gI A K9 := ⟨_, rfl⟩
      obtain ⟨bz, hbz⟩ : ∃ b, b = gB A K9 := ⟨_, rfl⟩
      have GAK := Lib.hid (get_of A K9 szA ZZ bz hZ.symm hbz.symm)
      clear hZ hbz
      clear hA szA isA hp0 PU0
      by_cases hd0 : delE L X.key = 0
      · skip
        obtain ⟨D, hD⟩ : ∃ D, D = withoutL L X.key := ⟨_, rfl⟩
        have szD : SzI D := by rw [hD]; exact without_sz HS.out
        have DE := Lib.hid (show ∀ W, TabAt W → RdI W (.slice a3 L.length c3) L → Calls Tryd.prog 20 #[.slice a3 L.length c3, .string (str X.key)] W (OwnIE W D 0) by
          have e1 : delR L X.key = D := by unfold delR; rw [if_pos hd0, hD]
          rw [hd0, e1] at DE0; exact DE0)
        have isD : isL D = true := by rw [hD]; exact without_is hd0
        have lenD : D.length + 1 = L.length := by rw [hD]; exact without_len hd0
        have hld : ((D.length : Int) != (L.length : Int) - 1) = false := by simp; omega
        obtain ⟨UU, hU⟩ : ∃ U, U = gI D X.key := ⟨_, rfl⟩
        have GDX := Lib.hid (get_of D X.key szD UU false hU.symm (by unfold gB; rw [isD, hD, without_at hd0]; rfl))
        have ID := Lib.hid (show ∀ (ao : Option Addr) (cap : Nat) W, TabAt W → RdI W (.slice ao D.length cap) D → Calls Tryd.prog 35 #[.slice ao D.length cap] W fun e w' => e = .returned (.bool true) ∧ Below W.heap.size W w' by
          intro ao cap W t h
          have := lawIs9_any (.slice ao D.length cap) D W t h szD
          rw [isD] at this; exact this)
        obtain ⟨VV, hV⟩ : ∃ V, V = gI D K9 := ⟨_, rfl⟩
        obtain ⟨bv9, hbv⟩ : ∃ b, b = gB D K9 := ⟨_, rfl⟩
        have GDK := Lib.hid (get_of D K9 szD VV bv9 hV.symm hbv.symm)
        clear hV hbv
        have LD := Lib.hid lenD
        clear hD szD isD hd0 DE0 lenD hU
        as_aux_lemma =>
          go_wp2_with fail
          refine (GL.out _ (T5.out.below B5) (RDL.out.below B5 (Nat.le_refl _))).mono ?_
          rintro e w6 ⟨rfl, g⟩
          have x6 := (g.block _ (lt_of_block x5)).trans x5
          have B6 := chain B5 g
          clear g
          have a7 := (Below.refl w6.heap.size w6).alloc (Nat.le_refl _) (.cells #[.string (str G0.key), .int .i64 G0.v.k, .int .i64 G0.v.i, .string (str G0.v.s), .int .i64 G0.ver] 32)
          have x7 := (a7.block _ (lt_of_block x6)).trans x6
          have s7 := heap_alloc_new w6 (.cells #[.string (str G0.key), .int .i64 G0.v.k, .int .i64 G0.v.i, .string (str G0.v.s), .int .i64 G0.ver] 32)
          have B7 := chain B6 a7
          obtain ⟨xc0, xc1, xc2, xc3, xc4, xcz⟩ := block_cells5 x7
          go_wp2_with fail
          refine (PU.out _ (T5.out.below B7) (RDL.out.below B7 (Nat.le_refl _))).mono ?_
          rintro e w8 ⟨vA, rfl, oA, g⟩
          have x8 := (g.block _ (lt_of_block x7)).trans x7
          have s8 := (g.block _ (lt_of_block s7)).trans s7
          have B8 := chain B7 g
          clear g
          have hrA := OwnI.rd (w := w) oA
          obtain ⟨aA, cA, rfl, kA1, kA2⟩ := slice_of_rd hrA
          have RDA := Lib.hid hrA
          have BA := Lib.hid (Below.refl w8.heap.size w8)
          clear oA hrA
          have BB8 := Below.refl w8.heap.size w8
          obtain ⟨xc0, xc1, xc2, xc3, xc4, xcz⟩ := block_cells5 x8
          go_wp2_with fail
          refine (GAX.out _ _ _ (T5.out.below B8) (RDA.out.below BB8 (Nat.le_refl _))).mono ?_
          rintro e w9 ⟨rfl, g⟩
          have x9 := (g.block _ (lt_of_block x8)).trans x8
          have s9 := (g.block _ (lt_of_block s8)).trans s8
          have B9 := chain B8 g
          skip
          have BB9 := chain BB8 g
          clear g
          have a10 := (Below.refl w9.heap.size w9).alloc (Nat.le_refl _) (.cells #[.string (str X.key), .int .i64 X.v.k, .int .i64 X.v.i, .string (str X.v.s), .int .i64 X.ver] 32)
          have x10 := (a10.block _ (lt_of_block x9)).trans x9
          have s10 := (a10.block _ (lt_of_block s9)).trans s9
          have y10 := heap_alloc_new w9 (.cells #[.string (str X.key), .int .i64 X.v.k, .int .i64 X.v.i, .string (str X.v.s), .int .i64 X.ver] 32)
          have B10 := chain B9 a10
          have BB10 := chain BB9 a10
          go_wp2_with fail
          refine (GAK.out _ _ _ (T5.out.below B10) (RDA.out.below BB10 (Nat.le_refl _))).mono ?_
          rintro e w11 ⟨rfl, g⟩
          have x11 := (g.block _ (lt_of_block x10)).trans x10
          have s11 := (g.block _ (lt_of_block s10)).trans s10
          have y11 := (g.block _ (lt_of_block y10)).trans y10
          have B11 := chain B10 g
          skip
          have BB11 := chain BB10 g
          clear g
          have a12 := (Below.refl w11.heap.size w11).alloc (Nat.le_refl _) (.cells #[.string (str ZZ.key), .int .i64 ZZ.v.k, .int .i64 ZZ.v.i, .string (str ZZ.v.s), .int .i64 ZZ.ver] 32)
          have x12 := (a12.block _ (lt_of_block x11)).trans x11
          have s12 := (a12.block _ (lt_of_block s11)).trans s11
          have y12 := (a12.block _ (lt_of_block y11)).trans y11
          have z12 := heap_alloc_new w11 (.cells #[.string (str ZZ.key), .int .i64 ZZ.v.k, .int .i64 ZZ.v.i, .string (str ZZ.v.s), .int .i64 ZZ.ver] 32)
          have B12 := chain B11 a12
          have BB12 := chain BB11 a12
          obtain ⟨xc0, xc1, xc2, xc3, xc4, xcz⟩ := block_cells5 x12
          obtain ⟨yc0, yc1, yc2, yc3, yc4, ycz⟩ := block_cells5 y12
          obtain ⟨zc0, zc1, zc2, zc3, zc4, zcz⟩ := block_cells5 z12
          obtain ⟨sc0, sc1, sc2, sc3, sc4, scz⟩ := block_cells5 s12
          go_wp2_with fail
          refine (IA.out _ _ _ (T5.out.below B12) (RDA.out.below BB12 (Nat.le_refl _))).mono ?_
          rintro e w13 ⟨rfl, g⟩
          have x13 := (g.block _ (lt_of_block x12)).trans x12
          have s13 := (g.block _ (lt_of_block s12)).trans s12
          have y13 := (g.block _ (lt_of_block y12)).trans y12
          have z13 := (g.block _ (lt_of_block z12)).trans z12
          have B13 := chain B12 g
          skip
          have BB13 := chain BB12 g
          clear g
          obtain ⟨zc0, zc1, zc2, zc3, zc4, zcz⟩ := block_cells5 z13
          obtain ⟨sc0, sc1, sc2, sc3, sc4, scz⟩ := block_cells5 s13
          clear BB8 BB9 BB10 BB11 BB12 BB13
          obtain ⟨xc0, xc1, xc2, xc3, xc4, xcz⟩ := block_cells5 x13
          go_wp2_with fail
          refine (DE.out _ (T5.out.below B13) (RDL.out.below B13 (Nat.le_refl _))).mono ?_
          rintro e w14 ⟨vD, rfl, oD, g⟩
          have x14 := (g.block _ (lt_of_block x13)).trans x13
          have s14 := (g.block _ (lt_of_block s13)).trans s13
          have y14 := (g.block _ (lt_of_block y13)).trans y13
          have z14 := (g.block _ (lt_of_block z13)).trans z13
          have B14 := chain B13 g
          clear g
          have hrD := OwnI.rd (w := w) oD
          obtain ⟨aD, cD, rfl, kD1, kD2⟩ := slice_of_rd hrD
          have RDD := Lib.hid hrD
          clear oD hrD
          have DD14 := Below.refl w14.heap.size w14
          obtain ⟨xc0, xc1, xc2, xc3, xc4, xcz⟩ := block_cells5 x14
          go_wp2_with fail
          refine (GDX.out _ _ _ (T5.out.below B14) (RDD.out.below DD14 (Nat.le_refl _))).mono ?_
          rintro e w15 ⟨rfl, g⟩
          have x15 := (g.block _ (lt_of_block x14)).trans x14
          have s15 := (g.block _ (lt_of_block s14)).trans s14
          have y15 := (g.block _ (lt_of_block y14)).trans y14
          have z15 := (g.block _ (lt_of_block z14)).trans z14
          have B15 := chain B14 g
          skip
          have DD15 := chain DD14 g
          clear g
          have a16 := (Below.refl w15.heap.size w15).alloc (Nat.le_refl _) (.cells #[.string (str UU.key), .int .i64 UU.v.k, .int .i64 UU.v.i, .string (str UU.v.s), .int .i64 UU.ver] 32)
          have x16 := (a16.block _ (lt_of_block x15)).trans x15
          have s16 := (a16.block _ (lt_of_block s15)).trans s15
          have y16 := (a16.block _ (lt_of_block y15)).trans y15
          have z16 := (a16.block _ (lt_of_block z15)).trans z15
          have u16 := heap_alloc_new w15 (.cells #[.string (str UU.key), .int .i64 UU.v.k, .int .i64 UU.v.i, .string (str UU.v.s), .int .i64 UU.ver] 32)
          have B16 := chain B15 a16
          have DD16 := chain DD15 a16
          go_wp2_with fail
          refine (GDK.out _ _ _ (T5.out.below B16) (RDD.out.below DD16 (Nat.le_refl _))).mono ?_
          rintro e w17 ⟨rfl, g⟩
          have x17 := (g.block _ (lt_of_block x16)).trans x16
          have s17 := (g.block _ (lt_of_block s16)).trans s16
          have y17 := (g.block _ (lt_of_block y16)).trans y16
          have z17 := (g.block _ (lt_of_block z16)).trans z16
          have u17 := (g.block _ (lt_of_block u16)).trans u16
          have B17 := chain B16 g
          skip
          have DD17 := chain DD16 g
          clear g
          have a18 := (Below.refl w17.heap.size w17).alloc (Nat.le_refl _) (.cells #[.string (str VV.key), .int .i64 VV.v.k, .int .i64 VV.v.i, .string (str VV.v.s), .int .i64 VV.ver] 32)
          have x18 := (a18.block _ (lt_of_block x17)).trans x17
          have s18 := (a18.block _ (lt_of_block s17)).trans s17
          have y18 := (a18.block _ (lt_of_block y17)).trans y17
          have z18 := (a18.block _ (lt_of_block z17)).trans z17
          have u18 := (a18.block _ (lt_of_block u17)).trans u17
          have t18 := heap_alloc_new w17 (.cells #[.string (str VV.key), .int .i64 VV.v.k, .int .i64 VV.v.i, .string (str VV.v.s), .int .i64 VV.ver] 32)
          have B18 := chain B17 a18
          have DD18 := chain DD17 a18
          obtain ⟨xc0, xc1, xc2, xc3, xc4, xcz⟩ := block_cells5 x18
          obtain ⟨tc0, tc1, tc2, tc3, tc4, tcz⟩ := block_cells5 t18
          obtain ⟨sc0, sc1, sc2, sc3, sc4, scz⟩ := block_cells5 s18
          go_wp2_with fail
          refine (ID.out _ _ _ (T5.out.below B18) (RDD.out.below DD18 (Nat.le_refl _))).mono ?_
          rintro e w19 ⟨rfl, g⟩
          have x19 := (g.block _ (lt_of_block x18)).trans x18
          have s19 := (g.block _ (lt_of_block s18)).trans s18
          have y19 := (g.block _ (lt_of_block y18)).trans y18
          have z19 := (g.block _ (lt_of_block z18)).trans z18
          have u19 := (g.block _ (lt_of_block u18)).trans u18
          have t19 := (g.block _ (lt_of_block t18)).trans t18
          have B19 := chain B18 g
          skip
          have DD19 := chain DD18 g
          clear g
          obtain ⟨xc0, xc1, xc2, xc3, xc4, xcz⟩ := block_cells5 x19
          obtain ⟨tc0, tc1, tc2, tc3, tc4, tcz⟩ := block_cells5 t19
          obtain ⟨sc0, sc1, sc2, sc3, sc4, scz⟩ := block_cells5 s19
          have AW := awake9_any.at _ (T5.out.below B19)
          go_wp2_with fail
          refine (AW).mono ?_
          rintro e w20 ⟨rfl, g⟩
          have x20 := (g.block _ (lt_of_block x19)).trans x19
          have s20 := (g.block _ (lt_of_block s19)).trans s19
          have y20 := (g.block _ (lt_of_block y19)).trans y19
          have z20 := (g.block _ (lt_of_block z19)).trans z19
          have u20 := (g.block _ (lt_of_block u19)).trans u19
          have t20 := (g.block _ (lt_of_block t19)).trans t19
          have B20 := chain B19 g
          clear g
          go_wp2_with fail
          go_ret
          exact ⟨rfl, chain B05.out B20⟩
      · obtain ⟨de, hde⟩ : ∃ de, de = delE L X.key := ⟨_, rfl⟩
        have hd1 : 1 ≤ de := by omega
        have DE := Lib.hid (show ∀ W, TabAt W → RdI W (.slice a3 L.length c3) L → Calls Tryd.prog 20 #[.slice a3 L.length c3, .string (str X.key)] W (OwnIE W (delR L X.key) de) by rw [hde]; exact DE0)
        have de0 := cast_ne0 hd1
        clear hd0 hde DE0 hd1
        as_aux_lemma =>
          go_wp2_with fail
          refine (GL.out _ (T5.out.below B5) (RDL.out.below B5 (Nat.le_refl _))).mono ?_
          rintro e w6 ⟨rfl, g⟩
          have x6 := (g.block _ (lt_of_block x5)).trans x5
          have B6 := chain B5 g
          clear g
          have a7 := (Below.refl w6.heap.size w6).alloc (Nat.le_refl _) (.cells #[.string (str G0.key), .int .i64 G0.v.k, .int .i64 G0.v.i, .string (str G0.v.s), .int .i64 G0.ver] 32)
          have x7 := (a7.block _ (lt_of_block x6)).trans x6
          have s7 := heap_alloc_new w6 (.cells #[.string (str G0.key), .int .i64 G0.v.k, .int .i64 G0.v.i, .string (str G0.v.s), .int .i64 G0.ver] 32)
          have B7 := chain B6 a7
          obtain ⟨xc0, xc1, xc2, xc3, xc4, xcz⟩ := block_cells5 x7
          go_wp2_with fail
          refine (PU.out _ (T5.out.below B7) (RDL.out.below B7 (Nat.le_refl _))).mono ?_
          rintro e w8 ⟨vA, rfl, oA, g⟩
          have x8 := (g.block _ (lt_of_block x7)).trans x7
          have s8 := (g.block _ (lt_of_block s7)).trans s7
          have B8 := chain B7 g
          clear g
          have hrA := OwnI.rd (w := w) oA
          obtain ⟨aA, cA, rfl, kA1, kA2⟩ := slice_of_rd hrA
          have RDA := Lib.hid hrA
          have BA := Lib.hid (Below.refl w8.heap.size w8)
          clear oA hrA
          have BB8 := Below.refl w8.heap.size w8
          obtain ⟨xc0, xc1, xc2, xc3, xc4, xcz⟩ := block_cells5 x8
          go_wp2_with fail
          refine (GAX.out _ _ _ (T5.out.below B8) (RDA.out.below BB8 (Nat.le_refl _))).mono ?_
          rintro e w9 ⟨rfl, g⟩
          have x9 := (g.block _ (lt_of_block x8)).trans x8
          have s9 := (g.block _ (lt_of_block s8)).trans s8
          have B9 := chain B8 g
          skip
          have BB9 := chain BB8 g
          clear g
          have a10 := (Below.refl w9.heap.size w9).alloc (Nat.le_refl _) (.cells #[.string (str X.key), .int .i64 X.v.k, .int .i64 X.v.i, .string (str X.v.s), .int .i64 X.ver] 32)
          have x10 := (a10.block _ (lt_of_block x9)).trans x9
          have s10 := (a10.block _ (lt_of_block s9)).trans s9
          have y10 := heap_alloc_new w9 (.cells #[.string (str X.key), .int .i64 X.v.k, .int .i64 X.v.i, .string (str X.v.s), .int .i64 X.ver] 32)
          have B10 := chain B9 a10
          have BB10 := chain BB9 a10
          go_wp2_with fail
          refine (GAK.out _ _ _ (T5.out.below B10) (RDA.out.below BB10 (Nat.le_refl _))).mono ?_
          rintro e w11 ⟨rfl, g⟩
          have x11 := (g.block _ (lt_of_block x10)).trans x10
          have s11 := (g.block _ (lt_of_block s10)).trans s10
          have y11 := (g.block _ (lt_of_block y10)).trans y10
          have B11 := chain B10 g
          skip
          have BB11 := chain BB10 g
          clear g
          have a12 := (Below.refl w11.heap.size w11).alloc (Nat.le_refl _) (.cells #[.string (str ZZ.key), .int .i64 ZZ.v.k, .int .i64 ZZ.v.i, .string (str ZZ.v.s), .int .i64 ZZ.ver] 32)
          have x12 := (a12.block _ (lt_of_block x11)).trans x11
          have s12 := (a12.block _ (lt_of_block s11)).trans s11
          have y12 := (a12.block _ (lt_of_block y11)).trans y11
          have z12 := heap_alloc_new w11 (.cells #[.string (str ZZ.key), .int .i64 ZZ.v.k, .int .i64 ZZ.v.i, .string (str ZZ.v.s), .int .i64 ZZ.ver] 32)
          have B12 := chain B11 a12
          have BB12 := chain BB11 a12
          obtain ⟨xc0, xc1, xc2, xc3, xc4, xcz⟩ := block_cells5 x12
          obtain ⟨yc0, yc1, yc2, yc3, yc4, ycz⟩ := block_cells5 y12
          obtain ⟨zc0, zc1, zc2, zc3, zc4, zcz⟩ := block_cells5 z12
          obtain ⟨sc0, sc1, sc2, sc3, sc4, scz⟩ := block_cells5 s12
          go_wp2_with fail
          refine (IA.out _ _ _ (T5.out.below B12) (RDA.out.below BB12 (Nat.le_refl _))).mono ?_
          rintro e w13 ⟨rfl, g⟩
          have x13 := (g.block _ (lt_of_block x12)).trans x12
          have s13 := (g.block _ (lt_of_block s12)).trans s12
          have y13 := (g.block _ (lt_of_block y12)).trans y12
          have z13 := (g.block _ (lt_of_block z12)).trans z12
          have B13 := chain B12 g
          skip
          have BB13 := chain BB12 g
          clear g
          obtain ⟨zc0, zc1, zc2, zc3, zc4, zcz⟩ := block_cells5 z13
          obtain ⟨sc0, sc1, sc2, sc3, sc4, scz⟩ := block_cells5 s13
          clear BB8 BB9 BB10 BB11 BB12 BB13
          obtain ⟨xc0, xc1, xc2, xc3, xc4, xcz⟩ := block_cells5 x13
          go_wp2_with fail
          refine (DE.out _ (T5.out.below B13) (RDL.out.below B13 (Nat.le_refl _))).mono ?_
          rintro e w14 ⟨vD, rfl, oD, g⟩
          have x14 := (g.block _ (lt_of_block x13)).trans x13
          have s14 := (g.block _ (lt_of_block s13)).trans s13
          have y14 := (g.block _ (lt_of_block y13)).trans y13
          have z14 := (g.block _ (lt_of_block z13)).trans z13
          have B14 := chain B13 g
          clear g
          have AW := awake9_any.at _ (T5.out.below B14)
          go_wp2_with fail
          refine (AW).mono ?_
          rintro e w15 ⟨rfl, g⟩
          have x15 := (g.block _ (lt_of_block x14)).trans x14
          have s15 := (g.block _ (lt_of_block s14)).trans s14
          have y15 := (g.block _ (lt_of_block y14)).trans y14
          have z15 := (g.block _ (lt_of_block z14)).trans z14
          have B15 := chain B14 g
          clear g
          go_wp2_with fail
          go_ret
          exact ⟨rfl, chain B05.out B15⟩
    · obtain ⟨pe, hpe⟩ : ∃ pe, pe = putE L X := ⟨_, rfl⟩
      have hp1 : 1 ≤ pe := by omega
      have PU := Lib.hid (show ∀ W, TabAt W → RdI W (.slice a3 L.length c3) L → Calls Tryd.prog 19 #[.slice a3 L.length c3, .agg #[.string (str X.key), .int .i64 X.v.k, .int .i64 X.v.i, .string (str X.v.s), .int .i64 X.ver]] W (OwnIE W (putR L X) pe) by rw [hpe]; exact PU0)
      have pe0 := cast_ne0 hp1
      clear hp0 hpe PU0 hp1
      by_cases hd0 : delE L X.key = 0
      · skip
        obtain ⟨D, hD⟩ : ∃ D, D = withoutL L X.key := ⟨_, rfl⟩
        have szD : SzI D := by rw [hD]; exact without_sz HS.out
        have DE := Lib.hid (show ∀ W, TabAt W → RdI W (.slice a3 L.length c3) L → Calls Tryd.prog 20 #[.slice a3 L.length c3, .string (str X.key)] W (OwnIE W D 0) by
          have e1 : delR L X.key = D := by unfold delR; rw [if_pos hd0, hD]
          rw [hd0, e1] at DE0; exact DE0)
        have isD : isL D = true := by rw [hD]; exact without_is hd0
        have lenD : D.length + 1 = L.length := by rw [hD]; exact without_len hd0
        have hld : ((D.length : Int) != (L.length : Int) - 1) = false := by simp; omega
        obtain ⟨UU, hU⟩ : ∃ U, U = gI D X.key := ⟨_, rfl⟩
        have GDX := Lib.hid (get_of D X.key szD UU false hU.symm (by unfold gB; rw [isD, hD, without_at hd0]; rfl))
        have ID := Lib.hid (show ∀ (ao : Option Addr) (cap : Nat) W, TabAt W → RdI W (.slice ao D.length cap) D → Calls Tryd.prog 35 #[.slice ao D.length cap] W fun e w' => e = .returned (.bool true) ∧ Below W.heap.size W w' by
          intro ao cap W t h
          have := lawIs9_any (.slice ao D.length cap) D W t h szD
          rw [isD] at this; exact this)
        obtain ⟨VV, hV⟩ : ∃ V, V = gI D K9 := ⟨_, rfl⟩
        obtain ⟨bv9, hbv⟩ : ∃ b, b = gB D K9 := ⟨_, rfl⟩
        have GDK := Lib.hid (get_of D K9 szD VV bv9 hV.symm hbv.symm)
        clear hV hbv
        have LD := Lib.hid lenD
        clear hD szD isD hd0 DE0 lenD hU
        as_aux_lemma =>
          go_wp2_with fail
          refine (GL.out _ (T5.out.below B5) (RDL.out.below B5 (Nat.le_refl _))).mono ?_
          rintro e w6 ⟨rfl, g⟩
          have x6 := (g.block _ (lt_of_block x5)).trans x5
          have B6 := chain B5 g
          clear g
          have a7 := (Below.refl w6.heap.size w6).alloc (Nat.le_refl _) (.cells #[.string (str G0.key), .int .i64 G0.v.k, .int .i64 G0.v.i, .string (str G0.v.s), .int .i64 G0.ver] 32)
          have x7 := (a7.block _ (lt_of_block x6)).trans x6
          have s7 := heap_alloc_new w6 (.cells #[.string (str G0.key), .int .i64 G0.v.k, .int .i64 G0.v.i, .string (str G0.v.s), .int .i64 G0.ver] 32)
          have B7 := chain B6 a7
          obtain ⟨xc0, xc1, xc2, xc3, xc4, xcz⟩ := block_cells5 x7
          go_wp2_with fail
          refine (PU.out _ (T5.out.below B7) (RDL.out.below B7 (Nat.le_refl _))).mono ?_
          rintro e w8 ⟨vA, rfl, oA, g⟩
          have x8 := (g.block _ (lt_of_block x7)).trans x7
          have s8 := (g.block _ (lt_of_block s7)).trans s7
          have B8 := chain B7 g
          clear g
          obtain ⟨xc0, xc1, xc2, xc3, xc4, xcz⟩ := block_cells5 x8
          go_wp2_with fail
          refine (DE.out _ (T5.out.below B8) (RDL.out.below B8 (Nat.le_refl _))).mono ?_
          rintro e w9 ⟨vD, rfl, oD, g⟩
          have x9 := (g.block _ (lt_of_block x8)).trans x8
          have s9 := (g.block _ (lt_of_block s8)).trans s8
          have B9 := chain B8 g
          clear g
          have hrD := OwnI.rd (w := w) oD
          obtain ⟨aD, cD, rfl, kD1, kD2⟩ := slice_of_rd hrD
          have RDD := Lib.hid hrD
          clear oD hrD
          have DD9 := Below.refl w9.heap.size w9
          obtain ⟨xc0, xc1, xc2, xc3, xc4, xcz⟩ := block_cells5 x9
          go_wp2_with fail
          refine (GDX.out _ _ _ (T5.out.below B9) (RDD.out.below DD9 (Nat.le_refl _))).mono ?_
          rintro e w10 ⟨rfl, g⟩
          have x10 := (g.block _ (lt_of_block x9)).trans x9
          have s10 := (g.block _ (lt_of_block s9)).trans s9
          have B10 := chain B9 g
          skip
          have DD10 := chain DD9 g
          clear g
          have a11 := (Below.refl w10.heap.size w10).alloc (Nat.le_refl _) (.cells #[.string (str UU.key), .int .i64 UU.v.k, .int .i64 UU.v.i, .string (str UU.v.s), .int .i64 UU.ver] 32)
          have x11 := (a11.block _ (lt_of_block x10)).trans x10
          have s11 := (a11.block _ (lt_of_block s10)).trans s10
          have u11 := heap_alloc_new w10 (.cells #[.string (str UU.key), .int .i64 UU.v.k, .int .i64 UU.v.i, .string (str UU.v.s), .int .i64 UU.ver] 32)
          have B11 := chain B10 a11
          have DD11 := chain DD10 a11
          go_wp2_with fail
          refine (GDK.out _ _ _ (T5.out.below B11) (RDD.out.below DD11 (Nat.le_refl _))).mono ?_
          rintro e w12 ⟨rfl, g⟩
          have x12 := (g.block _ (lt_of_block x11)).trans x11
          have s12 := (g.block _ (lt_of_block s11)).trans s11
          have u12 := (g.block _ (lt_of_block u11)).trans u11
          have B12 := chain B11 g
          skip
          have DD12 := chain DD11 g
          clear g
          have a13 := (Below.refl w12.heap.size w12).alloc (Nat.le_refl _) (.cells #[.string (str VV.key), .int .i64 VV.v.k, .int .i64 VV.v.i, .string (str VV.v.s), .int .i64 VV.ver] 32)
          have x13 := (a13.block _ (lt_of_block x12)).trans x12
          have s13 := (a13.block _ (lt_of_block s12)).trans s12
          have u13 := (a13.block _ (lt_of_block u12)).trans u12
          have t13 := heap_alloc_new w12 (.cells #[.string (str VV.key), .int .i64 VV.v.k, .int .i64 VV.v.i, .string (str VV.v.s), .int .i64 VV.ver] 32)
          have B13 := chain B12 a13
          have DD13 := chain DD12 a13
          obtain ⟨xc0, xc1, xc2, xc3, xc4, xcz⟩ := block_cells5 x13
          obtain ⟨tc0, tc1, tc2, tc3, tc4, tcz⟩ := block_cells5 t13
          obtain ⟨sc0, sc1, sc2, sc3, sc4, scz⟩ := block_cells5 s13
          go_wp2_with fail
          refine (ID.out _ _ _ (T5.out.below B13) (RDD.out.below DD13 (Nat.le_refl _))).mono ?_
          rintro e w14 ⟨rfl, g⟩
          have x14 := (g.block _ (lt_of_block x13)).trans x13
          have s14 := (g.block _ (lt_of_block s13)).trans s13
          have u14 := (g.block _ (lt_of_block u13)).trans u13
          have t14 := (g.block _ (lt_of_block t13)).trans t13
          have B14 := chain B13 g
          skip
          have DD14 := chain DD13 g
          clear g
          obtain ⟨xc0, xc1, xc2, xc3, xc4, xcz⟩ := block_cells5 x14
          obtain ⟨tc0, tc1, tc2, tc3, tc4, tcz⟩ := block_cells5 t14
          obtain ⟨sc0, sc1, sc2, sc3, sc4, scz⟩ := block_cells5 s14
          have AW := awake9_any.at _ (T5.out.below B14)
          go_wp2_with fail
          refine (AW).mono ?_
          rintro e w15 ⟨rfl, g⟩
          have x15 := (g.block _ (lt_of_block x14)).trans x14
          have s15 := (g.block _ (lt_of_block s14)).trans s14
          have u15 := (g.block _ (lt_of_block u14)).trans u14
          have t15 := (g.block _ (lt_of_block t14)).trans t14
          have B15 := chain B14 g
          clear g
          go_wp2_with fail
          go_ret
          exact ⟨rfl, chain B05.out B15⟩
      · obtain ⟨de, hde⟩ : ∃ de, de = delE L X.key := ⟨_, rfl⟩
        have hd1 : 1 ≤ de := by omega
        have DE := Lib.hid (show ∀ W, TabAt W → RdI W (.slice a3 L.length c3) L → Calls Tryd.prog 20 #[.slice a3 L.length c3, .string (str X.key)] W (OwnIE W (delR L X.key) de) by rw [hde]; exact DE0)
        have de0 := cast_ne0 hd1
        clear hd0 hde DE0 hd1
        as_aux_lemma =>
          go_wp2_with fail
          refine (GL.out _ (T5.out.below B5) (RDL.out.below B5 (Nat.le_refl _))).mono ?_
          rintro e w6 ⟨rfl, g⟩
          have x6 := (g.block _ (lt_of_block x5)).trans x5
          have B6 := chain B5 g
          clear g
          have a7 := (Below.refl w6.heap.size w6).alloc (Nat.le_refl _) (.cells #[.string (str G0.key), .int .i64 G0.v.k, .int .i64 G0.v.i, .string (str G0.v.s), .int .i64 G0.ver] 32)
          have x7 := (a7.block _ (lt_of_block x6)).trans x6
          have s7 := heap_alloc_new w6 (.cells #[.string (str G0.key), .int .i64 G0.v.k, .int .i64 G0.v.i, .string (str G0.v.s), .int .i64 G0.ver] 32)
          have B7 := chain B6 a7
          obtain ⟨xc0, xc1, xc2, xc3, xc4, xcz⟩ := block_cells5 x7
          go_wp2_with fail
          refine (PU.out _ (T5.out.below B7) (RDL.out.below B7 (Nat.le_refl _))).mono ?_
          rintro e w8 ⟨vA, rfl, oA, g⟩
          have x8 := (g.block _ (lt_of_block x7)).trans x7
          have s8 := (g.block _ (lt_of_block s7)).trans s7
          have B8 := chain B7 g
          clear g
          obtain ⟨xc0, xc1, xc2, xc3, xc4, xcz⟩ := block_cells5 x8
          go_wp2_with fail
          refine (DE.out _ (T5.out.below B8) (RDL.out.below B8 (Nat.le_refl _))).mono ?_
          rintro e w9 ⟨vD, rfl, oD, g⟩
          have x9 := (g.block _ (lt_of_block x8)).trans x8
          have s9 := (g.block _ (lt_of_block s8)).trans s8
          have B9 := chain B8 g
          clear g
          have AW := awake9_any.at _ (T5.out.below B9)
          go_wp2_with fail
          refine (AW).mono ?_
          rintro e w10 ⟨rfl, g⟩
          have x10 := (g.block _ (lt_of_block x9)).trans x9
          have s10 := (g.block _ (lt_of_block s9)).trans s9
          have B10 := chain B9 g
          clear g
          go_wp2_with fail
          go_ret
          exact ⟨rfl, chain B05.out B10⟩
  · have kx : ((str K9).toList != (str X.key).toList) = true := by rw [ne_str]; simp [hkx]
    have kx2 : ((str K9).toList == (str X.key).toList) = false := by rw [eq_str]; simp [hkx]
    have HKN := Lib.hid hkx
    clear hkx
    by_cases hp0 : putE L X = 0
    · skip
      obtain ⟨A, hA⟩ : ∃ A, A = withL L X := ⟨_, rfl⟩
      have szA : SzI A := by rw [hA]; exact with_sz HS.out HX2.out
      have PU := Lib.hid (show ∀ W, TabAt W → RdI W (.slice a3 L.length c3) L → Calls Tryd.prog 19 #[.slice a3 L.length c3, .agg #[.string (str X.key), .int .i64 X.v.k, .int .i64 X.v.i, .string (str X.v.s), .int .i64 X.ver]] W (OwnIE W A 0) by
        have e1 : putR L X = A := by unfold putR; rw [if_pos hp0, hA]
        rw [hp0, e1] at PU0; exact PU0)
      have isA : isL A = true := by rw [hA]; exact with_is hp0
      have GAX := Lib.hid (get_of A X.key szA X true (by unfold gI; rw [if_pos isA, hA, with_at hp0]; rfl) (by unfold gB; rw [isA, hA, with_at hp0]; rfl))
      have IA := Lib.hid (show ∀ (ao : Option Addr) (cap : Nat) W, TabAt W → RdI W (.slice ao A.length cap) A → Calls Tryd.prog 35 #[.slice ao A.length cap] W fun e w' => e = .returned (.bool true) ∧ Below W.heap.size W w' by
        intro ao cap W t h
        have := lawIs9_any (.slice ao A.length cap) A W t h szA
        rw [isA] at this; exact this)
      have isL0 := (putE_zero hp0).1
      have GAK := Lib.hid (get_of A K9 szA G0 b0 (by rw [HG.out]; unfold gI; rw [if_pos isA, if_pos isL0, hA, with_other hp0 HKN.out]) (by rw [HBB.out]; unfold gB; rw [isA, isL0, hA, with_other hp0 HKN.out]))
      clear isL0
      clear hA szA isA hp0 PU0
      by_cases hd0 : delE L X.key = 0
      · skip
        obtain ⟨D, hD⟩ : ∃ D, D = withoutL L X.key := ⟨_, rfl⟩
        have szD : SzI D := by rw [hD]; exact without_sz HS.out
        have DE := Lib.hid (show ∀ W, TabAt W → RdI W (.slice a3 L.length c3) L → Calls Tryd.prog 20 #[.slice a3 L.length c3, .string (str X.key)] W (OwnIE W D 0) by
          have e1 : delR L X.key = D := by unfold delR; rw [if_pos hd0, hD]
          rw [hd0, e1] at DE0; exact DE0)
        have isD : isL D = true := by rw [hD]; exact without_is hd0
        have lenD : D.length + 1 = L.length := by rw [hD]; exact without_len hd0
        have hld : ((D.length : Int) != (L.length : Int) - 1) = false := by simp; omega
        obtain ⟨UU, hU⟩ : ∃ U, U = gI D X.key := ⟨_, rfl⟩
        have GDX := Lib.hid (get_of D X.key szD UU false hU.symm (by unfold gB; rw [isD, hD, without_at hd0]; rfl))
        have ID := Lib.hid (show ∀ (ao : Option Addr) (cap : Nat) W, TabAt W → RdI W (.slice ao D.length cap) D → Calls Tryd.prog 35 #[.slice ao D.length cap] W fun e w' => e = .returned (.bool true) ∧ Below W.heap.size W w' by
          intro ao cap W t h
          have := lawIs9_any (.slice ao D.length cap) D W t h szD
          rw [isD] at this; exact this)
        have isL1 := (delE_zero hd0).1
        have GDK := Lib.hid (get_of D K9 szD G0 b0 (by rw [HG.out]; unfold gI; rw [if_pos isD, if_pos isL1, hD, without_other hd0 HKN.out]) (by rw [HBB.out]; unfold gB; rw [isD, isL1, hD, without_other hd0 HKN.out]))
        clear isL1
        have LD := Lib.hid lenD
        clear hD szD isD hd0 DE0 lenD hU
        as_aux_lemma =>
          go_wp2_with fail
          refine (GL.out _ (T5.out.below B5) (RDL.out.below B5 (Nat.le_refl _))).mono ?_
          rintro e w6 ⟨rfl, g⟩
          have x6 := (g.block _ (lt_of_block x5)).trans x5
          have B6 := chain B5 g
          clear g
          have a7 := (Below.refl w6.heap.size w6).alloc (Nat.le_refl _) (.cells #[.string (str G0.key), .int .i64 G0.v.k, .int .i64 G0.v.i, .string (str G0.v.s), .int .i64 G0.ver] 32)
          have x7 := (a7.block _ (lt_of_block x6)).trans x6
          have s7 := heap_alloc_new w6 (.cells #[.string (str G0.key), .int .i64 G0.v.k, .int .i64 G0.v.i, .string (str G0.v.s), .int .i64 G0.ver] 32)
          have B7 := chain B6 a7
          obtain ⟨xc0, xc1, xc2, xc3, xc4, xcz⟩ := block_cells5 x7
          go_wp2_with fail
          refine (PU.out _ (T5.out.below B7) (RDL.out.below B7 (Nat.le_refl _))).mono ?_
          rintro e w8 ⟨vA, rfl, oA, g⟩
          have x8 := (g.block _ (lt_of_block x7)).trans x7
          have s8 := (g.block _ (lt_of_block s7)).trans s7
          have B8 := chain B7 g
          clear g
          have hrA := OwnI.rd (w := w) oA
          obtain ⟨aA, cA, rfl, kA1, kA2⟩ := slice_of_rd hrA
          have RDA := Lib.hid hrA
          have BA := Lib.hid (Below.refl w8.heap.size w8)
          clear oA hrA
          have BB8 := Below.refl w8.heap.size w8
          obtain ⟨xc0, xc1, xc2, xc3, xc4, xcz⟩ := block_cells5 x8
          go_wp2_with fail
          refine (GAX.out _ _ _ (T5.out.below B8) (RDA.out.below BB8 (Nat.le_refl _))).mono ?_
          rintro e w9 ⟨rfl, g⟩
          have x9 := (g.block _ (lt_of_block x8)).trans x8
          have s9 := (g.block _ (lt_of_block s8)).trans s8
          have B9 := chain B8 g
          skip
          have BB9 := chain BB8 g
          clear g
          have a10 := (Below.refl w9.heap.size w9).alloc (Nat.le_refl _) (.cells #[.string (str X.key), .int .i64 X.v.k, .int .i64 X.v.i, .string (str X.v.s), .int .i64 X.ver] 32)
          have x10 := (a10.block _ (lt_of_block x9)).trans x9
          have s10 := (a10.block _ (lt_of_block s9)).trans s9
          have y10 := heap_alloc_new w9 (.cells #[.string (str X.key), .int .i64 X.v.k, .int .i64 X.v.i, .string (str X.v.s), .int .i64 X.ver] 32)
          have B10 := chain B9 a10
          have BB10 := chain BB9 a10
          go_wp2_with fail
          refine (GAK.out _ _ _ (T5.out.below B10) (RDA.out.below BB10 (Nat.le_refl _))).mono ?_
          rintro e w11 ⟨rfl, g⟩
          have x11 := (g.block _ (lt_of_block x10)).trans x10
          have s11 := (g.block _ (lt_of_block s10)).trans s10
          have y11 := (g.block _ (lt_of_block y10)).trans y10
          have B11 := chain B10 g
          skip
          have BB11 := chain BB10 g
          clear g
          have a12 := (Below.refl w11.heap.size w11).alloc (Nat.le_refl _) (.cells #[.string (str G0.key), .int .i64 G0.v.k, .int .i64 G0.v.i, .string (str G0.v.s), .int .i64 G0.ver] 32)
          have x12 := (a12.block _ (lt_of_block x11)).trans x11
          have s12 := (a12.block _ (lt_of_block s11)).trans s11
          have y12 := (a12.block _ (lt_of_block y11)).trans y11
          have z12 := heap_alloc_new w11 (.cells #[.string (str G0.key), .int .i64 G0.v.k, .int .i64 G0.v.i, .string (str G0.v.s), .int .i64 G0.ver] 32)
          have B12 := chain B11 a12
          have BB12 := chain BB11 a12
          obtain ⟨xc0, xc1, xc2, xc3, xc4, xcz⟩ := block_cells5 x12
          obtain ⟨yc0, yc1, yc2, yc3, yc4, ycz⟩ := block_cells5 y12
          obtain ⟨zc0, zc1, zc2, zc3, zc4, zcz⟩ := block_cells5 z12
          obtain ⟨sc0, sc1, sc2, sc3, sc4, scz⟩ := block_cells5 s12
          go_wp2_with fail
          refine (IA.out _ _ _ (T5.out.below B12) (RDA.out.below BB12 (Nat.le_refl _))).mono ?_
          rintro e w13 ⟨rfl, g⟩
          have x13 := (g.block _ (lt_of_block x12)).trans x12
          have s13 := (g.block _ (lt_of_block s12)).trans s12
          have y13 := (g.block _ (lt_of_block y12)).trans y12
          have z13 := (g.block _ (lt_of_block z12)).trans z12
          have B13 := chain B12 g
          skip
          have BB13 := chain BB12 g
          clear g
          obtain ⟨zc0, zc1, zc2, zc3, zc4, zcz⟩ := block_cells5 z13
          obtain ⟨sc0, sc1, sc2, sc3, sc4, scz⟩ := block_cells5 s13
          clear BB8 BB9 BB10 BB11 BB12 BB13
          obtain ⟨xc0, xc1, xc2, xc3, xc4, xcz⟩ := block_cells5 x13
          go_wp2_with fail
          refine (DE.out _ (T5.out.below B13) (RDL.out.below B13 (Nat.le_refl _))).mono ?_
          rintro e w14 ⟨vD, rfl, oD, g⟩
          have x14 := (g.block _ (lt_of_block x13)).trans x13
          have s14 := (g.block _ (lt_of_block s13)).trans s13
          have y14 := (g.block _ (lt_of_block y13)).trans y13
          have z14 := (g.block _ (lt_of_block z13)).trans z13
          have B14 := chain B13 g
          clear g
          have hrD := OwnI.rd (w := w) oD
          obtain ⟨aD, cD, rfl, kD1, kD2⟩ := slice_of_rd hrD
          have RDD := Lib.hid hrD
          clear oD hrD
          have DD14 := Below.refl w14.heap.size w14
          obtain ⟨xc0, xc1, xc2, xc3, xc4, xcz⟩ := block_cells5 x14
          go_wp2_with fail
          refine (GDX.out _ _ _ (T5.out.below B14) (RDD.out.below DD14 (Nat.le_refl _))).mono ?_
          rintro e w15 ⟨rfl, g⟩
          have x15 := (g.block _ (lt_of_block x14)).trans x14
          have s15 := (g.block _ (lt_of_block s14)).trans s14
          have y15 := (g.block _ (lt_of_block y14)).trans y14
          have z15 := (g.block _ (lt_of_block z14)).trans z14
          have B15 := chain B14 g
          skip
          have DD15 := chain DD14 g
          clear g
          have a16 := (Below.refl w15.heap.size w15).alloc (Nat.le_refl _) (.cells #[.string (str UU.key), .int .i64 UU.v.k, .int .i64 UU.v.i, .string (str UU.v.s), .int .i64 UU.ver] 32)
          have x16 := (a16.block _ (lt_of_block x15)).trans x15
          have s16 := (a16.block _ (lt_of_block s15)).trans s15
          have y16 := (a16.block _ (lt_of_block y15)).trans y15
          have z16 := (a16.block _ (lt_of_block z15)).trans z15
          have u16 := heap_alloc_new w15 (.cells #[.string (str UU.key), .int .i64 UU.v.k, .int .i64 UU.v.i, .string (str UU.v.s), .int .i64 UU.ver] 32)
          have B16 := chain B15 a16
          have DD16 := chain DD15 a16
          go_wp2_with fail
          refine (GDK.out _ _ _ (T5.out.below B16) (RDD.out.below DD16 (Nat.le_refl _))).mono ?_
          rintro e w17 ⟨rfl, g⟩
          have x17 := (g.block _ (lt_of_block x16)).trans x16
          have s17 := (g.block _ (lt_of_block s16)).trans s16
          have y17 := (g.block _ (lt_of_block y16)).trans y16
          have z17 := (g.block _ (lt_of_block z16)).trans z16
          have u17 := (g.block _ (lt_of_block u16)).trans u16
          have B17 := chain B16 g
          skip
          have DD17 := chain DD16 g
          clear g
          have a18 := (Below.refl w17.heap.size w17).alloc (Nat.le_refl _) (.cells #[.string (str G0.key), .int .i64 G0.v.k, .int .i64 G0.v.i, .string (str G0.v.s), .int .i64 G0.ver] 32)
          have x18 := (a18.block _ (lt_of_block x17)).trans x17
          have s18 := (a18.block _ (lt_of_block s17)).trans s17
          have y18 := (a18.block _ (lt_of_block y17)).trans y17
          have z18 := (a18.block _ (lt_of_block z17)).trans z17
          have u18 := (a18.block _ (lt_of_block u17)).trans u17
          have t18 := heap_alloc_new w17 (.cells #[.string (str G0.key), .int .i64 G0.v.k, .int .i64 G0.v.i, .string (str G0.v.s), .int .i64 G0.ver] 32)
          have B18 := chain B17 a18
          have DD18 := chain DD17 a18
          obtain ⟨xc0, xc1, xc2, xc3, xc4, xcz⟩ := block_cells5 x18
          obtain ⟨tc0, tc1, tc2, tc3, tc4, tcz⟩ := block_cells5 t18
          obtain ⟨sc0, sc1, sc2, sc3, sc4, scz⟩ := block_cells5 s18
          go_wp2_with fail
          refine (ID.out _ _ _ (T5.out.below B18) (RDD.out.below DD18 (Nat.le_refl _))).mono ?_
          rintro e w19 ⟨rfl, g⟩
          have x19 := (g.block _ (lt_of_block x18)).trans x18
          have s19 := (g.block _ (lt_of_block s18)).trans s18
          have y19 := (g.block _ (lt_of_block y18)).trans y18
          have z19 := (g.block _ (lt_of_block z18)).trans z18
          have u19 := (g.block _ (lt_of_block u18)).trans u18
          have t19 := (g.block _ (lt_of_block t18)).trans t18
          have B19 := chain B18 g
          skip
          have DD19 := chain DD18 g
          clear g
          obtain ⟨xc0, xc1, xc2, xc3, xc4, xcz⟩ := block_cells5 x19
          obtain ⟨tc0, tc1, tc2, tc3, tc4, tcz⟩ := block_cells5 t19
          obtain ⟨sc0, sc1, sc2, sc3, sc4, scz⟩ := block_cells5 s19
          have AW := awake9_any.at _ (T5.out.below B19)
          go_wp2_with fail
          refine (AW).mono ?_
          rintro e w20 ⟨rfl, g⟩
          have x20 := (g.block _ (lt_of_block x19)).trans x19
          have s20 := (g.block _ (lt_of_block s19)).trans s19
          have y20 := (g.block _ (lt_of_block y19)).trans y19
          have z20 := (g.block _ (lt_of_block z19)).trans z19
          have u20 := (g.block _ (lt_of_block u19)).trans u19
          have t20 := (g.block _ (lt_of_block t19)).trans t19
          have B20 := chain B19 g
          clear g
          go_wp2_with fail
          go_ret
          exact ⟨rfl, chain B05.out B20⟩
      · obtain ⟨de, hde⟩ : ∃ de, de = delE L X.key := ⟨_, rfl⟩
        have hd1 : 1 ≤ de := by omega
        have DE := Lib.hid (show ∀ W, TabAt W → RdI W (.slice a3 L.length c3) L → Calls Tryd.prog 20 #[.slice a3 L.length c3, .string (str X.key)] W (OwnIE W (delR L X.key) de) by rw [hde]; exact DE0)
        have de0 := cast_ne0 hd1
        clear hd0 hde DE0 hd1
        as_aux_lemma =>
          go_wp2_with fail
          refine (GL.out _ (T5.out.below B5) (RDL.out.below B5 (Nat.le_refl _))).mono ?_
          rintro e w6 ⟨rfl, g⟩
          have x6 := (g.block _ (lt_of_block x5)).trans x5
          have B6 := chain B5 g
          clear g
          have a7 := (Below.refl w6.heap.size w6).alloc (Nat.le_refl _) (.cells #[.string (str G0.key), .int .i64 G0.v.k, .int .i64 G0.v.i, .string (str G0.v.s), .int .i64 G0.ver] 32)
          have x7 := (a7.block _ (lt_of_block x6)).trans x6
          have s7 := heap_alloc_new w6 (.cells #[.string (str G0.key), .int .i64 G0.v.k, .int .i64 G0.v.i, .string (str G0.v.s), .int .i64 G0.ver] 32)
          have B7 := chain B6 a7
          obtain ⟨xc0, xc1, xc2, xc3, xc4, xcz⟩ := block_cells5 x7
          go_wp2_with fail
          refine (PU.out _ (T5.out.below B7) (RDL.out.below B7 (Nat.le_refl _))).mono ?_
          rintro e w8 ⟨vA, rfl, oA, g⟩
          have x8 := (g.block _ (lt_of_block x7)).trans x7
          have s8 := (g.block _ (lt_of_block s7)).trans s7
          have B8 := chain B7 g
          clear g
          have hrA := OwnI.rd (w := w) oA
          obtain ⟨aA, cA, rfl, kA1, kA2⟩ := slice_of_rd hrA
          have RDA := Lib.hid hrA
          have BA := Lib.hid (Below.refl w8.heap.size w8)
          clear oA hrA
          have BB8 := Below.refl w8.heap.size w8
          obtain ⟨xc0, xc1, xc2, xc3, xc4, xcz⟩ := block_cells5 x8
          go_wp2_with fail
          refine (GAX.out _ _ _ (T5.out.below B8) (RDA.out.below BB8 (Nat.le_refl _))).mono ?_
          rintro e w9 ⟨rfl, g⟩
          have x9 := (g.block _ (lt_of_block x8)).trans x8
          have s9 := (g.block _ (lt_of_block s8)).trans s8
          have B9 := chain B8 g
          skip
          have BB9 := chain BB8 g
          clear g
          have a10 := (Below.refl w9.heap.size w9).alloc (Nat.le_refl _) (.cells #[.string (str X.key), .int .i64 X.v.k, .int .i64 X.v.i, .string (str X.v.s), .int .i64 X.ver] 32)
          have x10 := (a10.block _ (lt_of_block x9)).trans x9
          have s10 := (a10.block _ (lt_of_block s9)).trans s9
          have y10 := heap_alloc_new w9 (.cells #[.string (str X.key), .int .i64 X.v.k, .int .i64 X.v.i, .string (str X.v.s), .int .i64 X.ver] 32)
          have B10 := chain B9 a10
          have BB10 := chain BB9 a10
          go_wp2_with fail
          refine (GAK.out _ _ _ (T5.out.below B10) (RDA.out.below BB10 (Nat.le_refl _))).mono ?_
          rintro e w11 ⟨rfl, g⟩
          have x11 := (g.block _ (lt_of_block x10)).trans x10
          have s11 := (g.block _ (lt_of_block s10)).trans s10
          have y11 := (g.block _ (lt_of_block y10)).trans y10
          have B11 := chain B10 g
          skip
          have BB11 := chain BB10 g
          clear g
          have a12 := (Below.refl w11.heap.size w11).alloc (Nat.le_refl _) (.cells #[.string (str G0.key), .int .i64 G0.v.k, .int .i64 G0.v.i, .string (str G0.v.s), .int .i64 G0.ver] 32)
          have x12 := (a12.block _ (lt_of_block x11)).trans x11
          have s12 := (a12.block _ (lt_of_block s11)).trans s11
          have y12 := (a12.block _ (lt_of_block y11)).trans y11
          have z12 := heap_alloc_new w11 (.cells #[.string (str G0.key), .int .i64 G0.v.k, .int .i64 G0.v.i, .string (str G0.v.s), .int .i64 G0.ver] 32)
          have B12 := chain B11 a12
          have BB12 := chain BB11 a12
          obtain ⟨xc0, xc1, xc2, xc3, xc4, xcz⟩ := block_cells5 x12
          obtain ⟨yc0, yc1, yc2, yc3, yc4, ycz⟩ := block_cells5 y12
          obtain ⟨zc0, zc1, zc2, zc3, zc4, zcz⟩ := block_cells5 z12
          obtain ⟨sc0, sc1, sc2, sc3, sc4, scz⟩ := block_cells5 s12
          go_wp2_with fail
          refine (IA.out _ _ _ (T5.out.below B12) (RDA.out.below BB12 (Nat.le_refl _))).mono ?_
          rintro e w13 ⟨rfl, g⟩
          have x13 := (g.block _ (lt_of_block x12)).trans x12
          have s13 := (g.block _ (lt_of_block s12)).trans s12
          have y13 := (g.block _ (lt_of_block y12)).trans y12
          have z13 := (g.block _ (lt_of_block z12)).trans z12
          have B13 := chain B12 g
          skip
          have BB13 := chain BB12 g
          clear g
          obtain ⟨zc0, zc1, zc2, zc3, zc4, zcz⟩ := block_cells5 z13
          obtain ⟨sc0, sc1, sc2, sc3, sc4, scz⟩ := block_cells5 s13
          clear BB8 BB9 BB10 BB11 BB12 BB13
          obtain ⟨xc0, xc1, xc2, xc3, xc4, xcz⟩ := block_cells5 x13
          go_wp2_with fail
          refine (DE.out _ (T5.out.below B13) (RDL.out.below B13 (Nat.le_refl _))).mono ?_
          rintro e w14 ⟨vD, rfl, oD, g⟩
          have x14 := (g.block _ (lt_of_block x13)).trans x13
          have s14 := (g.block _ (lt_of_block s13)).trans s13
          have y14 := (g.block _ (lt_of_block y13)).trans y13
          have z14 := (g.block _ (lt_of_block z13)).trans z13
          have B14 := chain B13 g
          clear g
          have AW := awake9_any.at _ (T5.out.below B14)
          go_wp2_with fail
          refine (AW).mono ?_
          rintro e w15 ⟨rfl, g⟩
          have x15 := (g.block _ (lt_of_block x14)).trans x14
          have s15 := (g.block _ (lt_of_block s14)).trans s14
          have y15 := (g.block _ (lt_of_block y14)).trans y14
          have z15 := (g.block _ (lt_of_block z14)).trans z14
          have B15 := chain B14 g
          clear g
          go_wp2_with fail
          go_ret
          exact ⟨rfl, chain B05.out B15⟩
    · obtain ⟨pe, hpe⟩ : ∃ pe, pe = putE L X := ⟨_, rfl⟩
      have hp1 : 1 ≤ pe := by omega
      have PU := Lib.hid (show ∀ W, TabAt W → RdI W (.slice a3 L.length c3) L → Calls Tryd.prog 19 #[.slice a3 L.length c3, .agg #[.string (str X.key), .int .i64 X.v.k, .int .i64 X.v.i, .string (str X.v.s), .int .i64 X.ver]] W (OwnIE W (putR L X) pe) by rw [hpe]; exact PU0)
      have pe0 := cast_ne0 hp1
      clear hp0 hpe PU0 hp1
      by_cases hd0 : delE L X.key = 0
      · skip
        obtain ⟨D, hD⟩ : ∃ D, D = withoutL L X.key := ⟨_, rfl⟩
        have szD : SzI D := by rw [hD]; exact without_sz HS.out
        have DE := Lib.hid (show ∀ W, TabAt W → RdI W (.slice a3 L.length c3) L → Calls Tryd.prog 20 #[.slice a3 L.length c3, .string (str X.key)] W (OwnIE W D 0) by
          have e1 : delR L X.key = D := by unfold delR; rw [if_pos hd0, hD]
          rw [hd0, e1] at DE0; exact DE0)
        have isD : isL D = true := by rw [hD]; exact without_is hd0
        have lenD : D.length + 1 = L.length := by rw [hD]; exact without_len hd0
        have hld : ((D.length : Int) != (L.length : Int) - 1) = false := by simp; omega
        obtain ⟨UU, hU⟩ : ∃ U, U = gI D X.key := ⟨_, rfl⟩
        have GDX := Lib.hid (get_of D X.key szD UU false hU.symm (by unfold gB; rw [isD, hD, without_at hd0]; rfl))
        have ID := Lib.hid (show ∀ (ao : Option Addr) (cap : Nat) W, TabAt W → RdI W (.slice ao D.length cap) D → Calls Tryd.prog 35 #[.slice ao D.length cap] W fun e w' => e = .returned (.bool true) ∧ Below W.heap.size W w' by
          intro ao cap W t h
          have := lawIs9_any (.slice ao D.length cap) D W t h szD
          rw [isD] at this; exact this)
        have isL1 := (delE_zero hd0).1
        have GDK := Lib.hid (get_of D K9 szD G0 b0 (by rw [HG.out]; unfold gI; rw [if_pos isD, if_pos isL1, hD, without_other hd0 HKN.out]) (by rw [HBB.out]; unfold gB; rw [isD, isL1, hD, without_other hd0 HKN.out]))
        clear isL1
        have LD := Lib.hid lenD
        clear hD szD isD hd0 DE0 lenD hU
        as_aux_lemma =>
          go_wp2_with fail
          refine (GL.out _ (T5.out.below B5) (RDL.out.below B5 (Nat.le_refl _))).mono ?_
          rintro e w6 ⟨rfl, g⟩
          have x6 := (g.block _ (lt_of_block x5)).trans x5
          have B6 := chain B5 g
          clear g
          have a7 := (Below.refl w6.heap.size w6).alloc (Nat.le_refl _) (.cells #[.string (str G0.key), .int .i64 G0.v.k, .int .i64 G0.v.i, .string (str G0.v.s), .int .i64 G0.ver] 32)
          have x7 := (a7.block _ (lt_of_block x6)).trans x6
          have s7 := heap_alloc_new w6 (.cells #[.string (str G0.key), .int .i64 G0.v.k, .int .i64 G0.v.i, .string (str G0.v.s), .int .i64 G0.ver] 32)
          have B7 := chain B6 a7
          obtain ⟨xc0, xc1, xc2, xc3, xc4, xcz⟩ := block_cells5 x7
          go_wp2_with fail
          refine (PU.out _ (T5.out.below B7) (RDL.out.below B7 (Nat.le_refl _))).mono ?_
          rintro e w8 ⟨vA, rfl, oA, g⟩
          have x8 := (g.block _ (lt_of_block x7)).trans x7
          have s8 := (g.block _ (lt_of_block s7)).trans s7
          have B8 := chain B7 g
          clear g
          obtain ⟨xc0, xc1, xc2, xc3, xc4, xcz⟩ := block_cells5 x8
          go_wp2_with fail
          refine (DE.out _ (T5.out.below B8) (RDL.out.below B8 (Nat.le_refl _))).mono ?_
          rintro e w9 ⟨vD, rfl, oD, g⟩
          have x9 := (g.block _ (lt_of_block x8)).trans x8
          have s9 := (g.block _ (lt_of_block s8)).trans s8
          have B9 := chain B8 g
          clear g
          have hrD := OwnI.rd (w := w) oD
          obtain ⟨aD, cD, rfl, kD1, kD2⟩ := slice_of_rd hrD
          have RDD := Lib.hid hrD
          clear oD hrD
          have DD9 := Below.refl w9.heap.size w9
          obtain ⟨xc0, xc1, xc2, xc3, xc4, xcz⟩ := block_cells5 x9
          go_wp2_with fail
          refine (GDX.out _ _ _ (T5.out.below B9) (RDD.out.below DD9 (Nat.le_refl _))).mono ?_
          rintro e w10 ⟨rfl, g⟩
          have x10 := (g.block _ (lt_of_block x9)).trans x9
          have s10 := (g.block _ (lt_of_block s9)).trans s9
          have B10 := chain B9 g
          skip
          have DD10 := chain DD9 g
          clear g
          have a11 := (Below.refl w10.heap.size w10).alloc (Nat.le_refl _) (.cells #[.string (str UU.key), .int .i64 UU.v.k, .int .i64 UU.v.i, .string (str UU.v.s), .int .i64 UU.ver] 32)
          have x11 := (a11.block _ (lt_of_block x10)).trans x10
          have s11 := (a11.block _ (lt_of_block s10)).trans s10
          have u11 := heap_alloc_new w10 (.cells #[.string (str UU.key), .int .i64 UU.v.k, .int .i64 UU.v.i, .string (str UU.v.s), .int .i64 UU.ver] 32)
          have B11 := chain B10 a11
          have DD11 := chain DD10 a11
          go_wp2_with fail
          refine (GDK.out _ _ _ (T5.out.below B11) (RDD.out.below DD11 (Nat.le_refl _))).mono ?_
          rintro e w12 ⟨rfl, g⟩
          have x12 := (g.block _ (lt_of_block x11)).trans x11
          have s12 := (g.block _ (lt_of_block s11)).trans s11
          have u12 := (g.block _ (lt_of_block u11)).trans u11
          have B12 := chain B11 g
          skip
          have DD12 := chain DD11 g
          clear g
          have a13 := (Below.refl w12.heap.size w12).alloc (Nat.le_refl _) (.cells #[.string (str G0.key), .int .i64 G0.v.k, .int .i64 G0.v.i, .string (str G0.v.s), .int .i64 G0.ver] 32)
          have x13 := (a13.block _ (lt_of_block x12)).trans x12
          have s13 := (a13.block _ (lt_of_block s12)).trans s12
          have u13 := (a13.block _ (lt_of_block u12)).trans u12
          have t13 := heap_alloc_new w12 (.cells #[.string (str G0.key), .int .i64 G0.v.k, .int .i64 G0.v.i, .string (str G0.v.s), .int .i64 G0.ver] 32)
          have B13 := chain B12 a13
          have DD13 := chain DD12 a13
          obtain ⟨xc0, xc1, xc2, xc3, xc4, xcz⟩ := block_cells5 x13
          obtain ⟨tc0, tc1, tc2, tc3, tc4, tcz⟩ := block_cells5 t13
          obtain ⟨sc0, sc1, sc2, sc3, sc4, scz⟩ := block_cells5 s13
          go_wp2_with fail
          refine (ID.out _ _ _ (T5.out.below B13) (RDD.out.below DD13 (Nat.le_refl _))).mono ?_
          rintro e w14 ⟨rfl, g⟩
          have x14 := (g.block _ (lt_of_block x13)).trans x13
          have s14 := (g.block _ (lt_of_block s13)).trans s13
          have u14 := (g.block _ (lt_of_block u13)).trans u13
          have t14 := (g.block _ (lt_of_block t13)).trans t13
          have B14 := chain B13 g
          skip
          have DD14 := chain DD13 g
          clear g
          obtain ⟨xc0, xc1, xc2, xc3, xc4, xcz⟩ := block_cells5 x14
          obtain ⟨tc0, tc1, tc2, tc3, tc4, tcz⟩ := block_cells5 t14
          obtain ⟨sc0, sc1, sc2, sc3, sc4, scz⟩ := block_cells5 s14
          have AW := awake9_any.at _ (T5.out.below B14)
          go_wp2_with fail
          refine (AW).mono ?_
          rintro e w15 ⟨rfl, g⟩
          have x15 := (g.block _ (lt_of_block x14)).trans x14
          have s15 := (g.block _ (lt_of_block s14)).trans s14
          have u15 := (g.block _ (lt_of_block u14)).trans u14
          have t15 := (g.block _ (lt_of_block t14)).trans t14
          have B15 := chain B14 g
          clear g
          go_wp2_with fail
          go_ret
          exact ⟨rfl, chain B05.out B15⟩
      · obtain ⟨de, hde⟩ : ∃ de, de = delE L X.key := ⟨_, rfl⟩
        have hd1 : 1 ≤ de := by omega
        have DE := Lib.hid (show ∀ W, TabAt W → RdI W (.slice a3 L.length c3) L → Calls Tryd.prog 20 #[.slice a3 L.length c3, .string (str X.key)] W (OwnIE W (delR L X.key) de) by rw [hde]; exact DE0)
        have de0 := cast_ne0 hd1
        clear hd0 hde DE0 hd1
        as_aux_lemma =>
          go_wp2_with fail
          refine (GL.out _ (T5.out.below B5) (RDL.out.below B5 (Nat.le_refl _))).mono ?_
          rintro e w6 ⟨rfl, g⟩
          have x6 := (g.block _ (lt_of_block x5)).trans x5
          have B6 := chain B5 g
          clear g
          have a7 := (Below.refl w6.heap.size w6).alloc (Nat.le_refl _) (.cells #[.string (str G0.key), .int .i64 G0.v.k, .int .i64 G0.v.i, .string (str G0.v.s), .int .i64 G0.ver] 32)
          have x7 := (a7.block _ (lt_of_block x6)).trans x6
          have s7 := heap_alloc_new w6 (.cells #[.string (str G0.key), .int .i64 G0.v.k, .int .i64 G0.v.i, .string (str G0.v.s), .int .i64 G0.ver] 32)
          have B7 := chain B6 a7
          obtain ⟨xc0, xc1, xc2, xc3, xc4, xcz⟩ := block_cells5 x7
          go_wp2_with fail
          refine (PU.out _ (T5.out.below B7) (RDL.out.below B7 (Nat.le_refl _))).mono ?_
          rintro e w8 ⟨vA, rfl, oA, g⟩
          have x8 := (g.block _ (lt_of_block x7)).trans x7
          have s8 := (g.block _ (lt_of_block s7)).trans s7
          have B8 := chain B7 g
          clear g
          obtain ⟨xc0, xc1, xc2, xc3, xc4, xcz⟩ := block_cells5 x8
          go_wp2_with fail
          refine (DE.out _ (T5.out.below B8) (RDL.out.below B8 (Nat.le_refl _))).mono ?_
          rintro e w9 ⟨vD, rfl, oD, g⟩
          have x9 := (g.block _ (lt_of_block x8)).trans x8
          have s9 := (g.block _ (lt_of_block s8)).trans s8
          have B9 := chain B8 g
          clear g
          have AW := awake9_any.at _ (T5.out.below B9)
          go_wp2_with fail
          refine (AW).mono ?_
          rintro e w10 ⟨rfl, g⟩
          have x10 := (g.block _ (lt_of_block x9)).trans x9
          have s10 := (g.block _ (lt_of_block s9)).trans s9
          have B10 := chain B9 g
          clear g
          go_wp2_with fail
          go_ret
          exact ⟨rfl, chain B05.out B10⟩
end Go.Proofs.YtcehgfganjdghaaDoor
