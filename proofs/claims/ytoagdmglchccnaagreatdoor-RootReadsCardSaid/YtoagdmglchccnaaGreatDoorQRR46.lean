/- What the document reads back from a root. -/
import Derived.Test.YtoagdmglchccnaaGreatDoorQRR42
import Derived.Test.YtoagdmglchccnaaGreatDoorQRR45
namespace Go.Proofs.YtoagdmglchccnaaGreatDoor
open Go Go.RowKit
set_option linter.unusedVariables false
set_option linter.unusedSimpArgs false
theorem chunksO_len2 {L : TxL} (hL : ∀ s ∈ L, s.length ≤ 2000) (n : Int) : (chunksO L n).2.1.length ≤ 2000 ∧ ∀ c ∈ (chunksO L n).2.1, c.length ≤ 2000 := by
  unfold chunksO
  cases h1 : textO L n with
  | none => exact ⟨by simp, fun c hc => by cases hc⟩
  | some s =>
    simp only
    by_cases hx : ∃ xs, IsDig s xs
    · obtain ⟨xs, hx⟩ := hx
      rw [splO_some hx]
      simp only
      cases xs with
      | nil => exact ⟨by simp [leafO], fun c hc => by cases hc⟩
      | cons x ys =>
        by_cases h2 : 0 ≤ x ∧ x ≤ 2147483647 ∧ pos12 ys = true
        · cases h3 : textsO L ys with
          | none => rw [leafO_none h2 h3]; exact ⟨by simp, fun c hc => by cases hc⟩
          | some cs =>
            rw [leafO_some h2 h3]
            obtain ⟨e1, e2⟩ := textsO_len h3
            have hs : s ∈ L := by
              unfold textO at h1
              split at h1
              · exact List.mem_of_getElem? h1
              · cases h1
            have a1 := digN_ge (x :: ys)
            rw [← hx.1, List.length_cons] at a1
            have a2 := hL s hs
            refine ⟨by show cs.length ≤ 2000; omega, fun c hc => hL c ((e2 c hc).elim id id)⟩
        · rw [leafO_no h2]; exact ⟨by simp, fun c hc => by cases hc⟩
    · rw [splO_none (fun xs h => hx ⟨xs, h⟩)]; exact ⟨by simp, fun c hc => by cases hc⟩
theorem lvO_64 (L : TxL) (xs : List Int) (b : Nat) : (lvO L xs b).length ≤ 64 := by
  unfold lvO bktO
  split
  · simp
  · split
    · simp
    · exact ofL_len
set_option maxRecDepth 100000 in
set_option maxHeartbeats 4000000 in
theorem refBack12_any (v : Value) (L : TxL) (n : Int) (w : World) (tab : TabAt w) (h : RdV w v (L.map T2.sv)) (hL : ∀ s ∈ L, s.length ≤ 2000) :
    Calls Tryz.prog 25 #[v, .int .i64 n] w (BackP w L n) := by
  obtain ⟨Z, hZ⟩ : ∃ Z, Z = BackP w L n := ⟨_, rfl⟩
  rw [← hZ]
  have HZ := Lib.hid hZ
  have LV := Lib.hid (fun W (g : Below w.heap.size w W) => refLeaves12_any v L n W (h.below g (Nat.le_refl _)) (fun s hs => Nat.le_trans (hL s hs) (by decide)))
  have CK := Lib.hid (fun y W (g : Below w.heap.size w W) => refChunks12_any v L y W (h.below g (Nat.le_refl _)) (fun s hs => Nat.le_trans (hL s hs) (by decide)))
  have CL := Lib.hid (chunksO_len2 hL)
  have TB0 := Lib.hid tab
  have q4 := heap_alloc_new w (.cells zT 27)
  have bel := (Below.refl w.heap.size w).alloc (Nat.le_refl _) (.cells zT 27)
  have z0 := zeroT_run
  have z1 := zT_ne
  obtain ⟨av, nv, cv, rfl⟩ : ∃ a n c, v = .slice a n c := by
    obtain ⟨a, c, e, -⟩ := h
    exact ⟨_, _, _, e⟩
  clear hZ tab h hL
  go_enter Tryz.func25, Tryz.ntmps25
  go_wp2_with fail
  refine (LV.out _ bel).mono ?_
  rintro e w1 ⟨u, rfl, own, g⟩
  have q41 := (g.block _ (lt_of_block q4)).trans q4
  have G1 := Lib.hid (chain bel g)
  have HLN := Lib.hid (show w.heap.size < w1.heap.size from lt_of_block q41)
  have OWL := Lib.hid own
  obtain ⟨au, nu, cu, rfl⟩ := own_slice own
  obtain ⟨xs, hxs⟩ : ∃ xs, xs = (leavesO L n).1 := ⟨_, rfl⟩
  obtain ⟨c, hc⟩ : ∃ c, c = (leavesO L n).2 := ⟨_, rfl⟩
  rw [← hc]
  have HXS := Lib.hid hxs
  have HCC := Lib.hid hc
  clear own g hxs hc q4 bel
  by_cases hc0 : c = 0
  · subst hc0
    have hln := Lib.hid (show (leavesO L n).2 = 0 from HCC.out.symm)
    have h16 := leavesO_16 hln.out
    have OW2 : w1.ownsRow (w.alloc (.cells zT 27)).heap.size 3 1 (.slice au nu cu) 16 (xs.map T2.iv) := by
      have := OWL.out
      rw [h16, ← HXS.out] at this
      exact this
    rw [← HXS.out] at h16
    obtain ⟨gq, cq, e0, -, -⟩ := slice_of_own OW2 (by omega)
    injection e0 with e1 e2 e3
    subst e1 e2 e3
    have HCELL := Lib.hid (show ∀ j, j < 16 → w1.cell? ⟨gq, j, none⟩ = some (.int .i64 (xs.getD j 0)) from fun j hj => by
      have := OW2.cellAt j (by simp; omega)
      have e : (xs.map T2.iv)[j]? = some (.int .i64 (xs.getD j 0)) := by
        rw [List.getElem?_map, List.getElem?_eq_getElem (by omega)]
        simp [T2.iv, List.getD, h16, hj]
      rw [← e]; simpa using this)
    have hgq : gq < w1.heap.size := (T2.own_lt OW2 gq rfl).2
    have HGQ := Lib.hid hgq
    have Q41 := Lib.hid q41
    have q8 := heap_alloc_new w1 (.cells zT 27)
    have gA := Lib.hid ((Below.refl w1.heap.size w1).alloc (Nat.le_refl _) (.cells zT 27))
    clear OW2 hgq h16 OWL q41
    have q8b := setRow_heap _ _ _ zT _ _ q8
    have gB := Lib.hid (below_row gA.out (Nat.le_refl _) zT)
    go_wp2_with (with_reducible refine wpList_store_row (o := ⟨none, _, _, _, _, _⟩) rfl 27 (.tmp 8) (.tmp 25) rfl _ zT rfl rfl _ zT q8 (infoTc zT_size) rfl zT_one ?_)
    obtain ⟨W2, hW2⟩ : ∃ W2, W2 = (w1.alloc (.cells zT 27)).setRow w1.heap.size zT := ⟨_, rfl⟩
    rw [← hW2] at q8b gB ⊢
    clear hW2 q8 gA
    have q8 := q8b
    have gA := gB
    clear q8b gB
    go_loopw [9] (fun i wr => ∃ (j : Nat) (csr : Array Value), j ≤ 16 ∧ i = .int .i64 (j : Int) ∧ wr.heap[w1.heap.size]? = some (.cells csr 27 (0, 0)) ∧ Hid (BkI (w1.heap.size + 1) (lvO L xs) (vsO L xs) j wr csr) ∧ Hid (∀ k, k < j → ceO L xs k = 0) ∧ Hid (Below w1.heap.size w1 wr)) (fun i _ => 20 - (intOf i).toNat)
    case atStart => exact ⟨0, zT, by omega, rfl, q8, Lib.hid ⟨rfl, fun b hb => absurd hb (by omega), fun b hb => absurd hb (by omega)⟩, Lib.hid (fun k hk => absurd hk (by omega)), gA⟩
    case round =>
      clear q8 gA
      obtain ⟨j, csr, hj, rfl, q8, BK, CE, HG⟩ := hrel
      have GW := Lib.hid (G1.out.trans (HG.out.mono (Nat.le_of_lt HLN.out)))
      by_cases hlt : j < 16
      · have hlti : (j : Int) < 16 := by omega
        obtain ⟨y, hy⟩ : ∃ y, y = xs.getD j 0 := ⟨_, rfl⟩
        have hc := HCELL.out j hlt
        rw [← hy] at hc
        have hc : wr.cell? ⟨gq, j, none⟩ = some (.int .i64 y) := by rw [World.cell?_of_block (w := w1) (HG.out.block _ HGQ.out)]; exact hc
        have CKy := CK.out y wr GW.out
        have CLy := CL.out y
        have HBK : ∀ r : Int × List T2.Txt × Int, chunksO L y = r → (r.2.2 ≠ 0 → ceO L xs j = r.2.2) ∧ (r.2.2 = 0 → ((ofL vfP r.2.1).2.1 ≠ 0 → ceO L xs j = 3) ∧ ((ofL vfP r.2.1).2.1 = 0 → ceO L xs j = 0 ∧ lvO L xs j = (ofL vfP r.2.1).1 ∧ vsO L xs j = r.1)) := by
          intro r hr
          subst hr
          unfold ceO lvO vsO
          rw [← hy]
          refine ⟨fun h => by rw [bktO_err h], fun h => ⟨fun h2 => by rw [bktO_bad h h2], fun h2 => by rw [bktO_ok h h2]; exact ⟨rfl, rfl, rfl⟩⟩⟩
        obtain ⟨R, hR⟩ : ∃ R, R = chunksO L y := ⟨_, rfl⟩
        have HBK := HBK R hR.symm
        rw [← hR] at CKy CLy
        obtain ⟨ver, cs, c2⟩ := R
        simp only at HBK CLy
        have HB := Lib.hid HBK
        have CKX := Lib.hid CKy
        have CLX := Lib.hid CLy
        clear HBK CKy CLy hR hy
        go_wp2_with fail
        refine CKX.out.mono ?_
        rintro e w3 ⟨u3, rfl, own3, g3⟩
        simp only at own3
        have q83 := (g3.block _ (lt_of_block q8)).trans q8
        have L8 := Lib.hid (lt_of_block q8)
        have HG3 := Lib.hid (chain HG.out (g3.mono (Nat.le_refl _)))
        have GW3 := Lib.hid (G1.out.trans (HG3.out.mono (Nat.le_of_lt HLN.out)))
        have q43 := (HG3.out.block _ HLN.out).trans Q41.out
        have G3 := Lib.hid g3
        by_cases hc2 : c2 = 0
        · subst hc2
          have HB2 := HB.out.2 rfl
          have rk : RdK 1 sC w3 u3 cs := own_rdk sC_len (by rw [flat_sC]; exact own3)
          have OF0 := refOf12b_any u3 cs w3 (TB0.out.below GW3.out) rk (by have := CLX.out.1; omega) CLX.out.2
          rw [ofL_same] at OF0
          have q85 := q83
          have HG5 := HG3
          obtain ⟨a3, n3, k3, rfl⟩ := own_slice own3
          clear own3 g3 q43 hc rk
          obtain ⟨R2, hR2⟩ : ∃ R2, R2 = ofL vfP cs := ⟨_, rfl⟩
          rw [← hR2] at OF0 HB2
          obtain ⟨its, e3, p3⟩ := R2
          simp only at HB2
          have HB2 := Lib.hid HB2
          have OF := Lib.hid OF0
          clear OF0 hR2
          go_wp2_with fail
          refine OF.out.mono ?_
          rintro e w7 ⟨v7, rfl, own7, g7⟩
          try simp only at own7
          have q87 := (g7.block _ (lt_of_block q85)).trans q85
          have HG7 := Lib.hid (chain HG5.out g7)
          have G7 := Lib.hid g7
          obtain ⟨a7, n7, k7, rfl⟩ := own_slice own7
          by_cases he3 : e3 = 0
          · subst he3
            obtain ⟨b1, b2, b3⟩ := HB2.out.2 rfl
            have hsz := BK.out.size
            obtain ⟨o1, ho1⟩ : ∃ o, csr[j]? = some o := ⟨csr[j]'(by omega), Array.getElem?_eq_getElem _⟩
            obtain ⟨o2, ho2⟩ : ∃ o, csr[16 + j]? = some o := ⟨csr[16 + j]'(by omega), Array.getElem?_eq_getElem _⟩
            have e1 := (block_cell q87 j).trans ho1
            have f1 := block_frozen q87 j
            have q871 := set_at (i := j) (u := .slice a7 n7 k7) q87
            have e2 := (block_cell q871 (16 + j)).trans ((Array.getElem?_setIfInBounds_ne (by omega)).trans ho2)
            have f2 := block_frozen q871 (16 + j)
            have e4 := e2
            have f4 := f2
            rw [Nat.add_comm 16 j] at e4 f4
            have hl7 := lt_of_block q87
            have hs3 := G3.out.size
            have hl8 := L8.out
            have STEP := Lib.hid (BK.out.step (w' := (w7.setCell ⟨w1.heap.size, j, none⟩ (.slice a7 n7 k7)).setCell ⟨w1.heap.size, 16 + j, none⟩ (.int .i64 ver)) hlt
              (fun k hk hk2 => by rw [set_old (by omega), set_old (by omega)]; exact (G7.out.block k (by omega)).trans (G3.out.block k hk2))
              (v := .slice a7 n7 k7) (by rw [b2]; exact own_moved (own_base own7 (by omega)) (fun k hk => by rw [set_old (by omega), set_old (by omega)])) b3.symm)
            have CE2 := Lib.hid (show ∀ k, k < j + 1 → ceO L xs k = 0 from fun k hk => by
              by_cases e : k = j
              · rw [e]; exact b1
              · exact CE.out k (by omega))
            have q88 := two_cells (i := j) (j := 16 + j) (u := .slice a7 n7 k7) (v := .int .i64 ver) q87
            have BELW := Lib.hid ((HG7.out.setCell (p := ⟨w1.heap.size, j, none⟩) (Nat.le_refl _) (.slice a7 n7 k7)).setCell (p := ⟨w1.heap.size, 16 + j, none⟩) (Nat.le_refl _) (.int .i64 ver))
            clear own7 g7 q871 b1 b2 b3 ho1 ho2 hsz q83 q85 q8
            go_wp2_with fail
            exact ⟨⟨j + 1, _, by omega, by push_cast; rfl, q88, STEP, CE2, BELW⟩, by simp [intOf]; omega⟩
          · have he3i : ¬ ((e3 : Int) = 0) := by omega
            have q47 := (HG7.out.block _ HLN.out).trans Q41.out
            have GW7 := Lib.hid (G1.out.trans (HG7.out.mono (Nat.le_of_lt HLN.out)))
            clear own7 g7
            have q9 := Lib.hid (setRow_heap _ _ _ zT _ _ q47)
            have BEL9 := Lib.hid (below_row (g := w.heap.size) GW7.out (Nat.le_refl _) zT)
            go_wp2_with (with_reducible refine wpList_store_row (o := ⟨none, _, _, _, _, _⟩) rfl 27 (.tmp 4) (.tmp 52) rfl _ zT rfl rfl _ zT q47 (infoTc zT_size) rfl zT_one ?_)
            refine bodyPost_ret (v := .tuple #[.agg zT, .int .i64 3]) (results_row_tmp rfl _ _ _ _ zT (0, 0) _ _ rfl rfl q9.out Tryz.underlying27 rfl (infoTc zT_size)) rfl ?_
            show Z _ _
            rw [HZ.out]
            refine backP_no BEL9.out ?_
            rw [HXS.out] at HB2 CE
            rw [← HB2.out.1 he3]
            exact BackR.leaf j hlt hln.out CE.out (by rw [HB2.out.1 he3]; omega)
        · have q43 := q43
          clear own3 g3 hc
          have q9 := Lib.hid (setRow_heap _ _ _ zT _ _ q43)
          have BEL9 := Lib.hid (below_row (g := w.heap.size) GW3.out (Nat.le_refl _) zT)
          go_wp2_with (with_reducible refine wpList_store_row (o := ⟨none, _, _, _, _, _⟩) rfl 27 (.tmp 4) (.tmp 42) rfl _ zT rfl rfl _ zT q43 (infoTc zT_size) rfl zT_one ?_)
          refine bodyPost_ret (v := .tuple #[.agg zT, .int .i64 c2]) (results_row_tmp rfl _ _ _ _ zT (0, 0) _ _ rfl rfl q9.out Tryz.underlying27 rfl (infoTc zT_size)) rfl ?_
          show Z _ _
          rw [HZ.out]
          refine backP_no BEL9.out ?_
          rw [HXS.out] at HB CE
          rw [← HB.out.1 hc2]
          exact BackR.leaf j hlt hln.out CE.out (by rw [HB.out.1 hc2]; exact hc2)
      · obtain rfl : j = 16 := by omega
        have hcs := infoTc BK.out.size
        have hcz : zT.size = csr.size := by rw [BK.out.size]; rfl
        have OT : OwnT (w1.heap.size + 1) wr csr (lvO L xs) (vsO L xs) := ⟨BK.out.size, BK.out.done, BK.out.ver⟩
        have MY0 := refTmay_any csr (lvO L xs) (vsO L xs) wr (TB0.out.below GW.out) OT.rd (lvO_sz L xs) (fun b _ => Nat.le_trans (lvO_64 L xs b) (by decide))
        have hone := OT.rd.one
        have OTX := Lib.hid OT
        rcases Bool.eq_false_or_eq_true (mayTs (lvO L xs) (vsO L xs) 16) with hm | hm
        · rw [hm] at MY0
          have MY := Lib.hid MY0
          have HM := Lib.hid hm
          clear MY0 hm OT
          go_wp2_with (with_reducible refine wpList_load_row (o := ⟨some 61, _, _, _, _, _⟩) rfl 27 (.tmp 8) rfl _ rfl _ csr (0, 0) _ q8 Tryz.underlying27 rfl hcs ?_)
          refine MY.out.mono ?_
          rintro e w7 ⟨rfl, g7⟩
          have q87 := (g7.block _ (lt_of_block q8)).trans q8
          have HG7 := chain HG.out g7
          have q47 := (HG7.block _ HLN.out).trans Q41.out
          have q9 := Lib.hid (setRow_heap _ _ _ csr _ _ q47)
          have GW7 := G1.out.trans (HG7.mono (Nat.le_of_lt HLN.out))
          have BEL9 := Lib.hid (below_row (g := w.heap.size) GW7 (Nat.le_refl _) csr)
          have OT9 := Lib.hid (((OTX.out.below g7).moved (w' := w7.setRow w.heap.size csr) (fun k hk _ => by have := HLN.out; rw [setRow_other _ _ _ _ (by omega)])).base (base' := w.heap.size) (by have := HLN.out; omega))
          clear g7 HG7 GW7
          go_wp2_with (first | (with_reducible refine wpList_load_row (o := ⟨some 65, _, _, _, _, _⟩) rfl 27 (.tmp 8) rfl _ rfl _ csr (0, 0) _ q87 Tryz.underlying27 rfl hcs ?_) | (with_reducible refine wpList_store_row (o := ⟨none, _, _, _, _, _⟩) rfl 27 (.tmp 4) (.tmp 65) rfl _ csr rfl rfl _ zT q47 hcs hcz hone ?_))
          refine bodyPost_ret (v := .tuple #[.agg csr, .int .i64 0]) (results_row_tmp rfl _ _ _ _ csr (0, 0) _ _ rfl rfl q9.out Tryz.underlying27 rfl hcs) rfl ?_
          show Z _ _
          rw [HZ.out]
          refine ⟨csr, 0, lvO L xs, vsO L xs, rfl, OT9.out, lvO_sz L xs, BEL9.out, ?_⟩
          rw [HXS.out] at HM CE ⊢
          exact BackR.ok hln.out CE.out HM.out
        · rw [hm] at MY0
          have MY := Lib.hid MY0
          have HM := Lib.hid hm
          clear MY0 hm OT
          go_wp2_with (with_reducible refine wpList_load_row (o := ⟨some 61, _, _, _, _, _⟩) rfl 27 (.tmp 8) rfl _ rfl _ csr (0, 0) _ q8 Tryz.underlying27 rfl hcs ?_)
          refine MY.out.mono ?_
          rintro e w7 ⟨rfl, g7⟩
          have HG7 := chain HG.out g7
          have q47 := (HG7.block _ HLN.out).trans Q41.out
          have GW7 := G1.out.trans (HG7.mono (Nat.le_of_lt HLN.out))
          clear g7 HG7
          have q9 := Lib.hid (setRow_heap _ _ _ zT _ _ q47)
          have BEL9 := Lib.hid (below_row (g := w.heap.size) GW7 (Nat.le_refl _) zT)
          go_wp2_with (with_reducible refine wpList_store_row (o := ⟨none, _, _, _, _, _⟩) rfl 27 (.tmp 4) (.tmp 64) rfl _ zT rfl rfl _ zT q47 (infoTc zT_size) rfl zT_one ?_)
          refine bodyPost_ret (v := .tuple #[.agg zT, .int .i64 1]) (results_row_tmp rfl _ _ _ _ zT (0, 0) _ _ rfl rfl q9.out Tryz.underlying27 rfl (infoTc zT_size)) rfl ?_
          show Z _ _
          rw [HZ.out]
          refine backP_no BEL9.out ?_
          rw [HXS.out] at HM CE
          exact BackR.not hln.out CE.out HM.out
  · have q9 := Lib.hid (setRow_heap _ _ _ zT _ _ q41)
    have BEL9 := Lib.hid (below_row (g := w.heap.size) G1.out (Nat.le_refl _) zT)
    go_wp2_with (with_reducible refine wpList_store_row (o := ⟨none, _, _, _, _, _⟩) rfl 27 (.tmp 4) (.tmp 23) rfl _ zT rfl rfl _ zT q41 (infoTc zT_size) rfl zT_one ?_)
    refine bodyPost_ret (v := .tuple #[.agg zT, .int .i64 c]) (results_row_tmp rfl _ _ _ _ zT (0, 0) _ _ rfl rfl q9.out Tryz.underlying27 rfl (infoTc zT_size)) rfl ?_
    show Z _ _
    rw [HZ.out]
    refine backP_no BEL9.out ?_
    rw [HCC.out]
    exact BackR.root (by rw [← HCC.out]; exact hc0)
end Go.Proofs.YtoagdmglchccnaaGreatDoor
