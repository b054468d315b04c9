/- Roots: back from a root, walked. -/
/- A number's digits, read by the document: mathematics. -/
import Derived.Test.YtoagdmglchccnaaGreatDoorQRR41
import Derived.Test.YtoagdmglchccnaaGreatDoorQRR7
namespace Go.Proofs.YtoagdmglchccnaaGreatDoor
open Go Go.RowKit
set_option linter.unusedVariables false
set_option linter.unusedSimpArgs false
theorem leavesO_16 {L : TxL} {n : Int} (h : (leavesO L n).2 = 0) : (leavesO L n).1.length = 16 := by
  unfold leavesO at h ⊢
  cases h1 : textO L n with
  | none => rw [h1] at h; simp at h
  | some s =>
    rw [h1] at h
    simp only at h ⊢
    cases h2 : splO s with
    | none => rw [h2] at h; simp at h
    | some xs =>
      rw [h2] at h
      simp only at h ⊢
      by_cases h3 : xs.length = 16 ∧ pos12 xs = true
      · rw [if_pos h3]; exact h3.1
      · rw [if_neg h3] at h; simp at h
set_option maxRecDepth 100000 in
set_option maxHeartbeats 4000000 in
theorem back12_any (base B M : Nat) (v : Value) (L : TxL) (n : Int) (w : World) (tab : TabAt w) (tb : T2.TB w base B M v L) (t : T2.Tab w) (es : ErrS w) (hL : ∀ s ∈ L, s.length ≤ 4000) :
    Calls Tryz.prog 24 #[.pointer (some ⟨B, 0, none⟩), .int .i64 n] w (BackP w L n) := by
  obtain ⟨Z, hZ⟩ : ∃ Z, Z = BackP w L n := ⟨_, rfl⟩
  rw [← hZ]
  have HZ := Lib.hid hZ
  have LV := Lib.hid (fun W (g : Below w.heap.size w W) => leaves12_any base B M v L n W (tb.below g) (t.below g) (es.below g) hL)
  have CK := Lib.hid (fun y W (g : Below w.heap.size w W) => chunks12_any base B M v L y W (tb.below g) (t.below g) (es.below g) hL)
  have CL := Lib.hid (chunksO_len hL)
  have TB0 := Lib.hid tab
  have q4 := heap_alloc_new w (.cells zT 27)
  have bel := (Below.refl w.heap.size w).alloc (Nat.le_refl _) (.cells zT 27)
  have z0 := zeroT_run
  have z1 := zT_ne
  clear hZ tab tb t es hL
  go_enter Tryz.func24, Tryz.ntmps24
  go_wp2_with fail
  refine (LV.out _ bel).mono ?_
  rintro e w1 ⟨u, rfl, own, g⟩
  have q41 := (g.block _ (lt_of_block q4)).trans q4
  have G1 := Lib.hid (chain bel g)
  have HLN := Lib.hid (show w.heap.size < w1.heap.size from lt_of_block q41)
  have OWL := Lib.hid own
  obtain ⟨au, nu, cu, rfl⟩ := own_slice own
  obtain ⟨xs, hxs⟩ : ∃ xs, xs = (leavesO L n).1 := ⟨_, rfl⟩
  obtain ⟨c, hc⟩ : ∃ c, c = (leavesO L n).2 := ⟨_, rfl⟩
  rw [← hc]
  have HXS := Lib.hid hxs
  have HCC := Lib.hid hc
  clear own g hxs hc q4 bel
  by_cases hc0 : c = 0
  · subst hc0
    have hln := Lib.hid (show (leavesO L n).2 = 0 from HCC.out.symm)
    have h16 := leavesO_16 hln.out
    have OW2 : w1.ownsRow (w.alloc (.cells zT 27)).heap.size 3 1 (.slice au nu cu) 16 (xs.map T2.iv) := by
      have := OWL.out
      rw [h16, ← HXS.out] at this
      exact this
    rw [← HXS.out] at h16
    obtain ⟨gq, cq, e0, -, -⟩ := slice_of_own OW2 (by omega)
    injection e0 with e1 e2 e3
    subst e1 e2 e3
    have HCELL := Lib.hid (show ∀ j, j < 16 → w1.cell? ⟨gq, j, none⟩ = some (.int .i64 (xs.getD j 0)) from fun j hj => by
      have := OW2.cellAt j (by simp; omega)
      have e : (xs.map T2.iv)[j]? = some (.int .i64 (xs.getD j 0)) := by
        rw [List.getElem?_map, List.getElem?_eq_getElem (by omega)]
        simp [T2.iv, List.getD, h16, hj]
      rw [← e]; simpa using this)
    have hgq : gq < w1.heap.size := (T2.own_lt OW2 gq rfl).2
    have HGQ := Lib.hid hgq
    have Q41 := Lib.hid q41
    have q8 := heap_alloc_new w1 (.cells zT 27)
    have gA := Lib.hid ((Below.refl w1.heap.size w1).alloc (Nat.le_refl _) (.cells zT 27))
    clear OW2 hgq h16 OWL q41
    go_wp2_with fail
    obtain ⟨W2, hW2⟩ : ∃ W2, W2 = w1.alloc (.cells zT 27) := ⟨_, rfl⟩
    rw [← hW2] at q8 gA ⊢
    clear hW2
    go_loopw [28] (fun i wr => ∃ (j : Nat) (csr : Array Value), j ≤ 16 ∧ i = .int .i64 (j : Int) ∧ wr.heap[w1.heap.size]? = some (.cells csr 27 (0, 0)) ∧ Hid (BkI (w1.heap.size + 1) (lvO L xs) (vsO L xs) j wr csr) ∧ Hid (∀ k, k < j → ceO L xs k = 0) ∧ Hid (Below w1.heap.size w1 wr)) (fun i _ => 20 - (intOf i).toNat)
    case atStart => exact ⟨0, zT, by omega, rfl, q8, Lib.hid ⟨rfl, fun b hb => absurd hb (by omega), fun b hb => absurd hb (by omega)⟩, Lib.hid (fun k hk => absurd hk (by omega)), gA⟩
    case round =>
      clear q8 gA
      obtain ⟨j, csr, hj, rfl, q8, BK, CE, HG⟩ := hrel
      have GW := Lib.hid (G1.out.trans (HG.out.mono (Nat.le_of_lt HLN.out)))
      by_cases hlt : j < 16
      · have hlti : (j : Int) < 16 := by omega
        obtain ⟨y, hy⟩ : ∃ y, y = xs.getD j 0 := ⟨_, rfl⟩
        have hc := HCELL.out j hlt
        rw [← hy] at hc
        have hc : wr.cell? ⟨gq, j, none⟩ = some (.int .i64 y) := by rw [World.cell?_of_block (w := w1) (HG.out.block _ HGQ.out)]; exact hc
        have CKy := CK.out y wr GW.out
        have CLy := CL.out y
        have HBK : ∀ r : Int × List T2.Txt × Int, chunksO L y = r → (r.2.2 ≠ 0 → ceO L xs j = r.2.2) ∧ (r.2.2 = 0 → ((ofL vfP r.2.1).2.1 ≠ 0 → ceO L xs j = 3) ∧ ((ofL vfP r.2.1).2.1 = 0 → ceO L xs j = 0 ∧ lvO L xs j = (ofL vfP r.2.1).1 ∧ vsO L xs j = r.1)) := by
          intro r hr
          subst hr
          unfold ceO lvO vsO
          rw [← hy]
          refine ⟨fun h => by rw [bktO_err h], fun h => ⟨fun h2 => by rw [bktO_bad h h2], fun h2 => by rw [bktO_ok h h2]; exact ⟨rfl, rfl, rfl⟩⟩⟩
        obtain ⟨R, hR⟩ : ∃ R, R = chunksO L y := ⟨_, rfl⟩
        have HBK := HBK R hR.symm
        rw [← hR] at CKy CLy
        obtain ⟨ver, cs, c2⟩ := R
        simp only at HBK CLy
        have HB := Lib.hid HBK
        have CKX := Lib.hid CKy
        have CLX := Lib.hid CLy
        clear HBK CKy CLy hR hy
        go_wp2_with fail
        refine CKX.out.mono ?_
        rintro e w3 ⟨u3, rfl, own3, g3⟩
        simp only at own3
        have q83 := (g3.block _ (lt_of_block q8)).trans q8
        have L8 := Lib.hid (lt_of_block q8)
        have HG3 := Lib.hid (chain HG.out (g3.mono (Nat.le_refl _)))
        have GW3 := Lib.hid (G1.out.trans (HG3.out.mono (Nat.le_of_lt HLN.out)))
        have q43 := (HG3.out.block _ HLN.out).trans Q41.out
        have G3 := Lib.hid g3
        by_cases hc2 : c2 = 0
        · subst hc2
          have BY := Lib.hid (bytes12_any u3 cs CLX.out.1 CLX.out.2 w3 (own_rdv own3))
          have HB2 := HB.out.2 rfl
          obtain ⟨a3, n3, k3, rfl⟩ := own_slice own3
          clear own3 g3 q43 hc
          go_wp2_with fail
          refine BY.out.mono ?_
          rintro e w5 ⟨u5, rfl, rp5, g5⟩
          have q85 := (g5.block _ (lt_of_block q83)).trans q83
          have HG5 := Lib.hid (chain HG3.out g5)
          have GW5 := Lib.hid (G1.out.trans (HG5.out.mono (Nat.le_of_lt HLN.out)))
          have OF0 := of9_any u5 cs w5 (TB0.out.below GW5.out) rp5 (by have := CLX.out.1; omega)
          have G5 := Lib.hid g5
          obtain ⟨R2, hR2⟩ : ∃ R2, R2 = ofL vfP cs := ⟨_, rfl⟩
          rw [← hR2] at OF0 HB2
          obtain ⟨its, e3, p3⟩ := R2
          simp only at HB2
          have HB2 := Lib.hid HB2
          have OF := Lib.hid OF0
          clear OF0 hR2 rp5 g5
          go_wp2_with fail
          refine OF.out.mono ?_
          rintro e w7 ⟨v7, rfl, own7, g7⟩
          try simp only at own7
          have q87 := (g7.block _ (lt_of_block q85)).trans q85
          have HG7 := Lib.hid (chain HG5.out g7)
          have G7 := Lib.hid g7
          obtain ⟨a7, n7, k7, rfl⟩ := own_slice own7
          by_cases he3 : e3 = 0
          · subst he3
            obtain ⟨b1, b2, b3⟩ := HB2.out.2 rfl
            have hsz := BK.out.size
            obtain ⟨o1, ho1⟩ : ∃ o, csr[j]? = some o := ⟨csr[j]'(by omega), Array.getElem?_eq_getElem _⟩
            obtain ⟨o2, ho2⟩ : ∃ o, csr[16 + j]? = some o := ⟨csr[16 + j]'(by omega), Array.getElem?_eq_getElem _⟩
            have e1 := (block_cell q87 j).trans ho1
            have f1 := block_frozen q87 j
            have q871 := set_at (i := j) (u := .slice a7 n7 k7) q87
            have e2 := (block_cell q871 (16 + j)).trans ((Array.getElem?_setIfInBounds_ne (by omega)).trans ho2)
            have f2 := block_frozen q871 (16 + j)
            have e4 := e2
            have f4 := f2
            rw [Nat.add_comm 16 j] at e4 f4
            have hl7 := lt_of_block q87
            have hs3 := G3.out.size
            have hs5 := G5.out.size
            have hl8 := L8.out
            have STEP := Lib.hid (BK.out.step (w' := (w7.setCell ⟨w1.heap.size, j, none⟩ (.slice a7 n7 k7)).setCell ⟨w1.heap.size, 16 + j, none⟩ (.int .i64 ver)) hlt
              (fun k hk hk2 => by rw [set_old (by omega), set_old (by omega)]; exact (G7.out.block k (by omega)).trans ((G5.out.block k (by omega)).trans (G3.out.block k hk2)))
              (v := .slice a7 n7 k7) (by rw [b2]; exact own_moved (own_base own7 (by omega)) (fun k hk => by rw [set_old (by omega), set_old (by omega)])) b3.symm)
            have CE2 := Lib.hid (show ∀ k, k < j + 1 → ceO L xs k = 0 from fun k hk => by
              by_cases e : k = j
              · rw [e]; exact b1
              · exact CE.out k (by omega))
            have q88 := two_cells (i := j) (j := 16 + j) (u := .slice a7 n7 k7) (v := .int .i64 ver) q87
            have BELW := Lib.hid ((HG7.out.setCell (p := ⟨w1.heap.size, j, none⟩) (Nat.le_refl _) (.slice a7 n7 k7)).setCell (p := ⟨w1.heap.size, 16 + j, none⟩) (Nat.le_refl _) (.int .i64 ver))
            clear own7 g7 q871 b1 b2 b3 ho1 ho2 hsz q83 q85 q8
            go_wp2_with fail
            exact ⟨⟨j + 1, _, by omega, by push_cast; rfl, q88, STEP, CE2, BELW⟩, by simp [intOf]; omega⟩
          · have he3i : ¬ ((e3 : Int) = 0) := by omega
            have q47 := (HG7.out.block _ HLN.out).trans Q41.out
            have GW7 := Lib.hid (G1.out.trans (HG7.out.mono (Nat.le_of_lt HLN.out)))
            clear own7 g7
            have q9 := Lib.hid (setRow_heap _ _ _ zT _ _ q47)
            have BEL9 := Lib.hid (below_row (g := w.heap.size) GW7.out (Nat.le_refl _) zT)
            go_wp2_with (with_reducible refine wpList_store_row (o := ⟨none, _, _, _, _, _⟩) rfl 27 (.tmp 4) (.tmp 53) rfl _ zT rfl rfl _ zT q47 (infoTc zT_size) rfl zT_one ?_)
            refine bodyPost_ret (v := .tuple #[.agg zT, .int .i64 3]) (results_row_tmp rfl _ _ _ _ zT (0, 0) _ _ rfl rfl q9.out Tryz.underlying27 rfl (infoTc zT_size)) rfl ?_
            show Z _ _
            rw [HZ.out]
            refine backP_no BEL9.out ?_
            rw [HXS.out] at HB2 CE
            rw [← HB2.out.1 he3]
            exact BackR.leaf j hlt hln.out CE.out (by rw [HB2.out.1 he3]; omega)
        · have q43 := q43
          clear own3 g3 hc
          have q9 := Lib.hid (setRow_heap _ _ _ zT _ _ q43)
          have BEL9 := Lib.hid (below_row (g := w.heap.size) GW3.out (Nat.le_refl _) zT)
          go_wp2_with (with_reducible refine wpList_store_row (o := ⟨none, _, _, _, _, _⟩) rfl 27 (.tmp 4) (.tmp 42) rfl _ zT rfl rfl _ zT q43 (infoTc zT_size) rfl zT_one ?_)
          refine bodyPost_ret (v := .tuple #[.agg zT, .int .i64 c2]) (results_row_tmp rfl _ _ _ _ zT (0, 0) _ _ rfl rfl q9.out Tryz.underlying27 rfl (infoTc zT_size)) rfl ?_
          show Z _ _
          rw [HZ.out]
          refine backP_no BEL9.out ?_
          rw [HXS.out] at HB CE
          rw [← HB.out.1 hc2]
          exact BackR.leaf j hlt hln.out CE.out (by rw [HB.out.1 hc2]; exact hc2)
      · obtain rfl : j = 16 := by omega
        have hcs := infoTc BK.out.size
        have hcz : zT.size = csr.size := by rw [BK.out.size]; rfl
        have OT : OwnT (w1.heap.size + 1) wr csr (lvO L xs) (vsO L xs) := ⟨BK.out.size, BK.out.done, BK.out.ver⟩
        have MY0 := tmay_any csr (lvO L xs) (vsO L xs) wr (TB0.out.below GW.out) OT.rd (lvO_sz L xs)
        have hone := OT.rd.one
        have OTX := Lib.hid OT
        rcases Bool.eq_false_or_eq_true (mayTs (lvO L xs) (vsO L xs) 16) with hm | hm
        · rw [hm] at MY0
          have MY := Lib.hid MY0
          have HM := Lib.hid hm
          clear MY0 hm OT
          go_wp2_with (with_reducible refine wpList_load_row (o := ⟨some 63, _, _, _, _, _⟩) rfl 27 (.tmp 8) rfl _ rfl _ csr (0, 0) _ q8 Tryz.underlying27 rfl hcs ?_)
          refine MY.out.mono ?_
          rintro e w7 ⟨rfl, g7⟩
          have q87 := (g7.block _ (lt_of_block q8)).trans q8
          have HG7 := chain HG.out g7
          have q47 := (HG7.block _ HLN.out).trans Q41.out
          have q9 := Lib.hid (setRow_heap _ _ _ csr _ _ q47)
          have GW7 := G1.out.trans (HG7.mono (Nat.le_of_lt HLN.out))
          have BEL9 := Lib.hid (below_row (g := w.heap.size) GW7 (Nat.le_refl _) csr)
          have OT9 := Lib.hid (((OTX.out.below g7).moved (w' := w7.setRow w.heap.size csr) (fun k hk _ => by have := HLN.out; rw [setRow_other _ _ _ _ (by omega)])).base (base' := w.heap.size) (by have := HLN.out; omega))
          clear g7 HG7 GW7
          go_wp2_with (first | (with_reducible refine wpList_load_row (o := ⟨some 67, _, _, _, _, _⟩) rfl 27 (.tmp 8) rfl _ rfl _ csr (0, 0) _ q87 Tryz.underlying27 rfl hcs ?_) | (with_reducible refine wpList_store_row (o := ⟨none, _, _, _, _, _⟩) rfl 27 (.tmp 4) (.tmp 67) rfl _ csr rfl rfl _ zT q47 hcs hcz hone ?_))
          refine bodyPost_ret (v := .tuple #[.agg csr, .int .i64 0]) (results_row_tmp rfl _ _ _ _ csr (0, 0) _ _ rfl rfl q9.out Tryz.underlying27 rfl hcs) rfl ?_
          show Z _ _
          rw [HZ.out]
          refine ⟨csr, 0, lvO L xs, vsO L xs, rfl, OT9.out, lvO_sz L xs, BEL9.out, ?_⟩
          rw [HXS.out] at HM CE ⊢
          exact BackR.ok hln.out CE.out HM.out
        · rw [hm] at MY0
          have MY := Lib.hid MY0
          have HM := Lib.hid hm
          clear MY0 hm OT
          go_wp2_with (with_reducible refine wpList_load_row (o := ⟨some 63, _, _, _, _, _⟩) rfl 27 (.tmp 8) rfl _ rfl _ csr (0, 0) _ q8 Tryz.underlying27 rfl hcs ?_)
          refine MY.out.mono ?_
          rintro e w7 ⟨rfl, g7⟩
          have HG7 := chain HG.out g7
          have q47 := (HG7.block _ HLN.out).trans Q41.out
          have GW7 := G1.out.trans (HG7.mono (Nat.le_of_lt HLN.out))
          clear g7 HG7
          have q9 := Lib.hid (setRow_heap _ _ _ zT _ _ q47)
          have BEL9 := Lib.hid (below_row (g := w.heap.size) GW7 (Nat.le_refl _) zT)
          go_wp2_with (with_reducible refine wpList_store_row (o := ⟨none, _, _, _, _, _⟩) rfl 27 (.tmp 4) (.tmp 66) rfl _ zT rfl rfl _ zT q47 (infoTc zT_size) rfl zT_one ?_)
          refine bodyPost_ret (v := .tuple #[.agg zT, .int .i64 1]) (results_row_tmp rfl _ _ _ _ zT (0, 0) _ _ rfl rfl q9.out Tryz.underlying27 rfl (infoTc zT_size)) rfl ?_
          show Z _ _
          rw [HZ.out]
          refine backP_no BEL9.out ?_
          rw [HXS.out] at HM CE
          exact BackR.not hln.out CE.out HM.out
  · have q9 := Lib.hid (setRow_heap _ _ _ zT _ _ q41)
    have BEL9 := Lib.hid (below_row (g := w.heap.size) G1.out (Nat.le_refl _) zT)
    go_wp2_with (with_reducible refine wpList_store_row (o := ⟨none, _, _, _, _, _⟩) rfl 27 (.tmp 4) (.tmp 24) rfl _ zT rfl rfl _ zT q41 (infoTc zT_size) rfl zT_one ?_)
    refine bodyPost_ret (v := .tuple #[.agg zT, .int .i64 c]) (results_row_tmp rfl _ _ _ _ zT (0, 0) _ _ rfl rfl q9.out Tryz.underlying27 rfl (infoTc zT_size)) rfl ?_
    show Z _ _
    rw [HZ.out]
    refine backP_no BEL9.out ?_
    rw [HCC.out]
    exact BackR.root (by rw [← HCC.out]; exact hc0)
end Go.Proofs.YtoagdmglchccnaaGreatDoor
namespace Go.Proofs.YtoagdmglchccnaaGreatDoor
open Go Go.RowKit
set_option linter.unusedVariables false
set_option linter.unusedSimpArgs false
structure Dg (s : T2.Txt) (A m : Nat) : Prop where
  len : A < s.length
  lt : m < 10 ^ (s.length - A)
  byte : ∀ p, A ≤ p → p < s.length → (s.getD p 0).toNat = 48 + m / 10 ^ (s.length - 1 - p) % 10
  big : m ≤ 9223372036854775808
  short : s.length ≤ 20
theorem dec_ge : ∀ (u : Nat), 1 < (Lib.decDigits u).length → 10 ^ ((Lib.decDigits u).length - 1) ≤ u := by
  intro u
  induction u using Nat.strongRecOn with
  | _ u ih =>
    intro h
    by_cases hu : u < 10
    · rw [Lib.decDigits_one hu] at h; simp at h
    · have e : Lib.decDigits u = Lib.decDigits (u / 10) ++ [UInt8.ofNat (48 + u % 10)] := by rw [Lib.decDigits, dif_neg hu]
      have hp := dec_len_pos (u / 10)
      have hl : (Lib.decDigits u).length = (Lib.decDigits (u / 10)).length + 1 := by rw [e]; simp
      rw [hl]
      by_cases h1 : 1 < (Lib.decDigits (u / 10)).length
      · have h2 := ih (u / 10) (by omega) h1
        have e3 : (Lib.decDigits (u / 10)).length + 1 - 1 = ((Lib.decDigits (u / 10)).length - 1) + 1 := by omega
        rw [e3, Nat.pow_succ]
        omega
      · have e3 : (Lib.decDigits (u / 10)).length + 1 - 1 = 1 := by omega
        rw [e3]; omega
theorem dec_short {u : Nat} (h : u ≤ 9223372036854775808) : (Lib.decDigits u).length ≤ 19 := by
  rcases Nat.lt_or_ge 19 (Lib.decDigits u).length with h1 | h1
  · have h2 := dec_ge u (by omega)
    have h3 : 10 ^ 19 ≤ 10 ^ ((Lib.decDigits u).length - 1) := Nat.pow_le_pow_right (by decide) (by omega)
    have h4 : (10 : Nat) ^ 19 = 10000000000000000000 := by decide
    omega
  · exact h1
theorem dg_pos {n : Int} (h : 0 ≤ n) (hf : T2.fitsI n) : Dg (Lib.itoa n) 0 n.natAbs ∧ (Lib.itoa n).getD 0 0 ≠ 45 := by
  unfold T2.fitsI at hf
  have e : Lib.itoa n = Lib.decDigits n.natAbs := by
    unfold Lib.itoa
    rw [if_neg (by omega)]
    congr 1; omega
  rw [e]
  have hp := dec_len_pos n.natAbs
  refine ⟨⟨hp, by simpa using dec_lt n.natAbs, fun p _ hp => ?_, by omega, by have := dec_short (u := n.natAbs) (by omega); omega⟩, ?_⟩
  · have := dec_at n.natAbs p hp
    rw [← this]; simp [List.getD, hp]
  · obtain ⟨c, r, e2, h1, h2⟩ := dec_cons n.natAbs
    rw [e2]
    intro hc
    simp at hc
    subst hc
    simp at h1
theorem dg_neg {n : Int} (h : n < 0) (hf : T2.fitsI n) : Dg (Lib.itoa n) 1 n.natAbs ∧ (Lib.itoa n).getD 0 0 = 45 := by
  unfold T2.fitsI at hf
  have e : Lib.itoa n = 45 :: Lib.decDigits n.natAbs := by
    unfold Lib.itoa
    rw [if_pos h]
  rw [e]
  have hp := dec_len_pos n.natAbs
  refine ⟨⟨by simp; omega, by simpa using dec_lt n.natAbs, fun p h1 hp => ?_, by omega, by have := dec_short (u := n.natAbs) (by omega); simp; omega⟩, rfl⟩
  cases p with
  | zero => omega
  | succ p =>
    simp only [List.length_cons] at hp ⊢
    have := dec_at n.natAbs p (by omega)
    have e3 : (Lib.decDigits n.natAbs).length + 1 - 1 - (p + 1) = (Lib.decDigits n.natAbs).length - 1 - p := by omega
    rw [e3, ← this]
    simp [List.getD, show p < (Lib.decDigits n.natAbs).length by omega]
theorem dg_step {s : T2.Txt} {A m p : Nat} (D : Dg s A m) (h1 : A ≤ p) (h2 : p < s.length) : 48 ≤ (s.getD p 0).toNat ∧ (s.getD p 0).toNat ≤ 57 ∧ m / 10 ^ (s.length - (p + 1)) = 10 * (m / 10 ^ (s.length - p)) + ((s.getD p 0).toNat - 48) ∧ 10 * (m / 10 ^ (s.length - p)) + ((s.getD p 0).toNat - 48) ≤ 9223372036854775808 := by
  have hb := D.byte p h1 h2
  have hg := D.big
  have e1 : s.length - (p + 1) = s.length - 1 - p := by omega
  have e2 : s.length - p = (s.length - 1 - p) + 1 := by omega
  rw [e1, e2, Nat.pow_succ, ← Nat.div_div_eq_div_mul]
  have hx : m / 10 ^ (s.length - 1 - p) ≤ m := Nat.div_le_self _ _
  generalize m / 10 ^ (s.length - 1 - p) = x at hb hx ⊢
  omega
theorem dg_start {s : T2.Txt} {A m : Nat} (D : Dg s A m) : m / 10 ^ (s.length - A) = 0 := Nat.div_eq_of_lt D.lt
/-- What the document reads of digits. -/
def NumP (s : T2.Txt) (e : Ending) : Prop := (∃ n, T2.fitsI n ∧ s = Lib.itoa n ∧ e = .returned (.tuple #[.int .i64 n, .bool true])) ∨ (∀ n, T2.fitsI n → s ≠ Lib.itoa n) ∧ ∃ m, e = .returned (.tuple #[.int .i64 m, .bool false])
end Go.Proofs.YtoagdmglchccnaaGreatDoor
