/- What the document reads of a number: the version and the chunks of a leaf. -/
/- The document's Of of more chunks. -/
import Derived.Test.YtoagdmglchccnaaGreatDoorQRR44
import Derived.Test.YtoagdmglchccnaaGreatDoorQRR39
import Derived.Test.YtoagdmglchccnaaGreatDoorQRR30
import Derived.Test.YtoagdmglchccnaaGreatDoorQRR29
namespace Go.Proofs.YtoagdmglchccnaaGreatDoor
open Go Go.RowKit
set_option linter.unusedVariables false
set_option linter.unusedSimpArgs false
set_option maxRecDepth 100000 in
set_option maxHeartbeats 2000000 in
theorem refChunks12_any (v : Value) (L : TxL) (n : Int) (w : World) (h : RdV w v (L.map T2.sv)) (hL : ∀ s ∈ L, s.length ≤ 4000) :
    Calls Tryz.prog 23 #[v, .int .i64 n] w (OwnC w (chunksO L n)) := by
  obtain ⟨Z, hZ⟩ : ∃ Z, Z = OwnC w (chunksO L n) := ⟨_, rfl⟩
  rw [← hZ]
  have HZ := Lib.hid hZ
  have TX := Lib.hid (rtext12_any v L n w h)
  have TXB := Lib.hid (fun y W (g : Below w.heap.size w W) => rtext12_any v L y W (h.below g (Nat.le_refl _)))
  have LI := Lib.hid (fun s (hs : s ∈ L) => list12_any s (hL s hs) w)
  have HL4 := Lib.hid hL
  obtain ⟨av, nv, cv, rfl⟩ : ∃ a n c, v = .slice a n c := by
    obtain ⟨a, c, e, -⟩ := h
    exact ⟨_, _, _, e⟩
  clear hZ h hL
  go_enter Tryz.func23, Tryz.ntmps23
  go_wp2_with fail
  refine TX.out.mono ?_
  rintro e w' ⟨rfl, ⟨h1, rfl⟩ | ⟨s, hs, h1, rfl⟩⟩
  · go_wp2_with fail
    show Z _ _
    rw [HZ.out]
    unfold chunksO
    rw [h1]
    exact ownC_no (Below.refl _ _)
  · go_wp2_with fail
    refine (LI.out s hs).mono ?_
    rintro e w1 ⟨g, ⟨xs, u, hx, rfl, own⟩ | ⟨hx, a5, n5, c5, rfl⟩⟩
    · have HR := Lib.hid (show chunksO L n = leafO L xs by unfold chunksO; rw [h1]; simp only; rw [splO_some hx])
      have GX := Lib.hid g
      have hlen : xs.length ≤ 4000 := by
        have a1 := digN_ge xs
        rw [← hx.1] at a1
        exact Nat.le_trans a1 (HL4.out s hs)
      clear hx h1 g LI TX
      cases xs with
      | nil =>
        obtain ⟨au, cu, rfl⟩ := own_slice_n own
        clear own
        go_wp2_with fail
        show Z _ _
        rw [HZ.out, HR.out]
        exact ownC_no GX.out
      | cons x ys =>
        simp only [List.length_cons] at own hlen
        obtain ⟨gq, cq, rfl, hq1, hq2⟩ := slice_of_own own (by omega)
        have hc0 : w1.cell? ⟨gq, 0, none⟩ = some (.int .i64 x) := by
          have := own.cellAt 0 (by simp)
          simpa [T2.iv] using this
        have HCELL := Lib.hid (show ∀ j (hj : j < ys.length), w1.cell? ⟨gq, j + 1, none⟩ = some (.int .i64 ys[j]) from fun j hj => by
          have := own.cellAt (j + 1) (by simp; omega)
          rw [List.map_cons, List.getElem?_cons_succ, List.getElem?_map, List.getElem?_eq_getElem hj] at this
          simpa [T2.iv] using this)
        have hgb : gq < w1.heap.size := (T2.own_lt own gq rfl).2
        obtain ⟨k, hk⟩ : ∃ k, k = ys.length := ⟨_, rfl⟩
        rw [← hk] at hlen ⊢
        have HK := Lib.hid hk
        have HC0 := Lib.hid hc0
        have hk0 : ¬ (k : Int) + 1 < 1 := by omega
        have hk1 : 1 ≤ (k : Int) + 1 := by omega
        clear own hk hq1 hq2
        by_cases hx1 : x < 0
        · have HR2 := Lib.hid (leafO_no (L := L) (x := x) (ys := ys) (by omega))
          go_wp2_with fail
          show Z _ _
          rw [HZ.out, HR.out, HR2.out]
          exact ownC_no GX.out
        · by_cases hx2 : 2147483647 < x
          · have HR2 := Lib.hid (leafO_no (L := L) (x := x) (ys := ys) (by omega))
            go_wp2_with fail
            show Z _ _
            rw [HZ.out, HR.out, HR2.out]
            exact ownC_no GX.out
          · have HX := Lib.hid (show 0 ≤ x ∧ x ≤ 2147483647 by omega)
            go_wp2_with fail
            clear hc0
            go_loopw [11] (fun i wr => ∃ q j : Nat, Hid (q = j + 1) ∧ j ≤ k ∧ 1 ≤ q ∧ q ≤ k + 1 ∧ i = .int .i64 (q : Int) ∧ wr = w1 ∧ Hid (pos12 (ys.take j) = true)) (fun i _ => k + 2 - (intOf i).toNat)
            case atStart => exact ⟨1, 0, Lib.hid rfl, Nat.zero_le _, Nat.le_refl _, by omega, rfl, rfl, Lib.hid rfl⟩
            case round =>
              obtain ⟨q, j, HQ, hj, hq1, hq2, rfl, hw, HP⟩ := hrel
              subst wr
              by_cases hlt : j < k
              · have hlti : (q : Int) < (k : Int) + 1 := by have := HQ.out; omega
                have hltn : q < k + 1 := by have := HQ.out; omega
                have hj2 : j < ys.length := by rw [← HK.out]; exact hlt
                have hc := HCELL.out j hj2
                rw [← HQ.out] at hc
                have PT := pos12_take hj2
                have PN := fun hx => pos12_no hj2 hx
                obtain ⟨y, hy⟩ : ∃ y, y = ys[j] := ⟨_, rfl⟩
                rw [← hy] at hc PT PN
                have PT := Lib.hid PT
                have PN := Lib.hid PN
                clear hy
                by_cases hy0 : y ≤ 0
                · have HR2 := Lib.hid (leafO_no (L := L) (x := x) (ys := ys) (fun hh => by have := PN.out (by omega); rw [this] at hh; exact absurd hh.2.2 (by simp)))
                  go_wp2_with fail
                  show Z _ _
                  rw [HZ.out, HR.out, HR2.out]
                  exact ownC_no GX.out
                · go_wp2_with fail
                  exact ⟨⟨q + 1, j + 1, Lib.hid (by rw [HQ.out]), by omega, by omega, by omega, by push_cast; rfl, (by first | trivial | rfl), Lib.hid (by rw [PT.out, HP.out]; simp; omega)⟩, by simp [intOf]; omega⟩
              · obtain rfl : j = k := by omega
                obtain rfl : q = j + 1 := HQ.out
                have HRC := Lib.hid (show 0 ≤ x ∧ x ≤ 2147483647 ∧ pos12 ys = true from ⟨HX.out.1, HX.out.2, by have := HP.out; rwa [HK.out, List.take_length] at this⟩)
                clear hlt HP
                go_wp2_with fail
                clear hq1 hq2
                have HCB := Lib.hid (show ∀ i (hi : i < ys.length) W, Below w1.heap.size w1 W → W.cell? ⟨gq, i + 1, none⟩ = some (.int .i64 ys[i]) from fun i hi W g => by rw [World.cell?_of_block (w := w1) (g.block _ hgb)]; exact HCELL.out i hi)
                obtain ⟨K, hK⟩ : ∃ K, K = j := ⟨_, rfl⟩
                rw [← hK] at HK hlen hk0 hk1 ⊢
                clear hK HQ
                go_loopw [12, 13] (fun lst i wr => ∃ (q j : Nat) (cs : List T2.Txt), Hid (q = j + 1) ∧ j ≤ K ∧ 1 ≤ q ∧ q ≤ K + 1 ∧ i = .int .i64 (q : Int) ∧ Hid (textsO L (ys.take j) = some cs) ∧ Hid (cs.length = j) ∧ Hid (Below w1.heap.size w1 wr) ∧ wr.ownsRow w1.heap.size 9 1 lst j (cs.map T2.sv)) (fun _ i _ => K + 2 - (intOf i).toNat)
                case atStart => exact ⟨1, 0, [], Lib.hid rfl, Nat.zero_le _, Nat.le_refl _, by omega, rfl, Lib.hid rfl, Lib.hid rfl, Lib.hid (Below.refl _ _), World.ownsRow_nil _ _ _ _⟩
                case round =>
                  obtain ⟨q, j, cs, HQ, hj, hq1, hq2, rfl, HTX, HCL, HG, own⟩ := hrel
                  have GW := Lib.hid (GX.out.trans (HG.out.mono GX.out.size))
                  have HO := Lib.hid own
                  obtain ⟨al, cl, rfl⟩ := own_slice_n own
                  by_cases hlt : j < K
                  · have hlti : (q : Int) < (K : Int) + 1 := by have := HQ.out; omega
                    have hltn : q < K + 1 := by have := HQ.out; omega
                    have hlt2 : j < ys.length := by rw [← HK.out]; exact hlt
                    have hc := HCB.out j hlt2 wr HG.out
                    rw [← HQ.out] at hc
                    obtain ⟨y, hy⟩ : ∃ y, y = ys[j]'hlt2 := ⟨_, rfl⟩
                    rw [← hy] at hc
                    have HY := Lib.hid hy
                    clear own hy
                    go_wp2_with fail
                    refine (TXB.out y wr GW.out).mono ?_
                    rintro e w5 ⟨rfl, ⟨h5, rfl⟩ | ⟨s5, hs5, h5, rfl⟩⟩
                    · have HR2 := Lib.hid (leafO_none HRC.out (textsO_none h5 (by rw [HY.out]; exact List.getElem_mem _)))
                      clear h5
                      go_wp2_with fail
                      show Z _ _
                      rw [HZ.out, HR.out, HR2.out]
                      exact ownC_no GW.out
                    · have HS := textsO_snoc h5 HTX.out
                      have e5 : ys.take j ++ [y] = ys.take (j + 1) := by rw [List.take_add_one, List.getElem?_eq_getElem hlt2, HY.out]; rfl
                      rw [e5] at HS
                      have HSX := Lib.hid HS
                      have own := HO.out
                      clear HS e5 h5
                      go_wp2_with (at_builtin; refine wpList_app_str rfl (.tmp 76) (.tmp 78) rfl w1.heap.size _ j cs rfl HCL.out.symm own _ s5 rfl (by have := HCL.out; omega) HG.out.size ?_; intro v6 w6 own6 g6 hq6)
                      exact ⟨⟨q + 1, j + 1, cs ++ [s5], Lib.hid (by rw [HQ.out]), by omega, by omega, by omega, by push_cast; rfl, HSX, Lib.hid (by rw [List.length_append, HCL.out]; rfl), Lib.hid (HG.out.grown g6 HG.out.size (fun q hq => (T2.own_lt own q hq).1)), own6⟩, by simp [intOf]; omega⟩
                  · obtain rfl : j = K := by omega
                    obtain rfl : q = j + 1 := HQ.out
                    have hT := HTX.out
                    rw [HK.out, List.take_length] at hT
                    have HR2 := Lib.hid (leafO_some HRC.out hT)
                    have hc0 : wr.cell? ⟨gq, 0, none⟩ = some (.int .i64 x) := by rw [World.cell?_of_block (w := w1) (HG.out.block _ hgb)]; exact HC0.out
                    clear own hT hq1 hq2 hlt
                    go_wp2_with fail
                    show Z _ _
                    rw [HZ.out, HR.out, HR2.out]
                    refine ⟨_, rfl, ?_, GW.out⟩
                    have o8 := own_base HO.out GX.out.size
                    show _
                    simp only [HCL.out]
                    exact o8
    · have HR := Lib.hid (show chunksO L n = (0, [], 3) by unfold chunksO; rw [h1]; simp only; rw [splO_none hx])
      have GX := Lib.hid g
      clear hx h1 g
      go_wp2_with fail
      show Z _ _
      rw [HZ.out, HR.out]
      exact ownC_no GX.out
end Go.Proofs.YtoagdmglchccnaaGreatDoor
namespace Go.Proofs.YtoagdmglchccnaaGreatDoor
open Go Go.RowKit
set_option linter.unusedVariables false
set_option linter.unusedSimpArgs false
set_option maxRecDepth 100000 in
set_option maxHeartbeats 1000000 in
theorem refOf12b_any (v : Value) (ls : List (List UInt8)) (w : World) (tab : TabAt w) (h : RdK 1 sC w v ls) (hn : ls.length ≤ 2000) (h2000 : ∀ c ∈ ls, c.length ≤ 2000) :
    Calls Tryz.prog 66 #[v] w (Own3 w (ofL vfR ls).1 (ofL vfR ls).2.1 (ofL vfR ls).2.2) := by
  obtain ⟨R, hR⟩ : ∃ R, R = ofL vfR ls := ⟨_, rfl⟩
  rw [← hR]
  obtain ⟨ao, cap, rfl, hl, hm, hrk⟩ := RdK.open h
  have HRl := Lib.hid (show R = ofE ls.length (ofGo vfR ls 0 [] (-1)) from hR)
  have HRD := Lib.hid hrk
  have H2 := Lib.hid (show ∀ j, (ls.getD j []).length ≤ 2000 by
    intro j
    by_cases hj : j < ls.length
    · have : ls.getD j [] = ls[j] := by simp [List.getD, hj]
      rw [this]; exact h2000 _ (List.getElem_mem _)
    · have : ls.getD j [] = [] := by simp [List.getD, Nat.not_lt.1 hj]
      rw [this]; simp)
  obtain ⟨i0, hi, hz0, hz1, hz2⟩ := info_parts item_info
  clear hR h hrk h2000
  go_enter Tryz.func66, Tryz.ntmps66
  go_wp2_with fail
  go_loopw [5, 6] (fun o i wr => ∃ (j : Nat) (acc : List It) (odd : Int), j ≤ ls.length ∧ i = .int .i64 (j : Int) ∧ acc.length ≤ 8 * j ∧ Hid (OddI ls j odd) ∧ Hid (ofGo vfR (ls.drop j) j acc odd = ofGo vfR ls 0 [] (-1)) ∧ Hid (∀ k, k < j → 0 < (ls.getD k []).length) ∧ Hid (SzI acc) ∧ wr.ownsRow w.heap.size 154 5 o acc.length (acc.flatMap itC) ∧ Below w.heap.size w wr) (fun _ i _ => 5000 - (intOf i).toNat)
  case atStart => exact ⟨0, [], -1, Nat.zero_le _, rfl, Nat.le_refl _, Lib.hid (.inl ⟨rfl, fun i hi => by omega⟩), Lib.hid rfl, Lib.hid (fun k hk => by omega), Lib.hid (fun x hx => by simp at hx), World.ownsRow_nil _ _ _ _, Below.refl _ _⟩
  case round =>
    obtain ⟨j, acc, odd, hj, rfl, hacc, HO, HC, HP, HS, hown, bel⟩ := hrel
    by_cases hlt : j < ls.length
    · obtain ⟨b, off, rfl, hb, hc⟩ := rdk_sC (HRD.out.below bel (Nat.le_refl _)) j hlt
      obtain ⟨c, hcc⟩ : ∃ c, c = ls.getD j [] := ⟨_, rfl⟩
      rw [← hcc] at hc
      have hc2 : c.length ≤ 2000 := by rw [hcc]; exact H2.out j
      obtain ⟨its, e, hce⟩ : ∃ its e, chunkL vfR c = (its, e) := ⟨_, _, rfl⟩
      have CU := refCut9_any c wr (tab.below bel) hc2
      rw [hce] at CU
      have hdr := drop_step hlt
      rw [← hcc] at hdr
      by_cases he : e = 0
      · subst he
        obtain ⟨k1, k8, ksz, _⟩ := chunkL_facts hce
        have hhd := chunkL_head hce
        have HO2 := Lib.hid (oddI_step HO.out (show its.length = headB (ls.getD j []) by rw [← hcc]; exact hhd.1))
        have HP2 := Lib.hid (show ∀ k, k < j + 1 → 0 < (ls.getD k []).length by
          intro k hk
          by_cases h : k = j
          · subst h; rw [← hcc]; exact hhd.2
          · exact HP.out k (by omega))
        have HS2 := Lib.hid (show SzI (acc ++ its) from fun y hy => (List.mem_append.1 hy).elim (HS.out y) (ksz y))
        have HK := Lib.hid (show ofGo vfR (ls.drop (j + 1)) (j + 1) (acc ++ its) (if odd < 0 ∧ its.length ≠ 8 then (j : Int) else odd) = ofGo vfR ls 0 [] (-1) by rw [← HC.out, hdr, ofGo_ok hce])
        obtain ⟨odd2, hodd2⟩ : ∃ o, o = (if odd < 0 ∧ its.length ≠ 8 then (j : Int) else odd) := ⟨_, rfl⟩
        rw [← hodd2] at HO2 HK
        clear hce hdr HC HS ksz hodd2 HO HP hhd hcc
        go_wp2_with fail
        refine CU.mono ?_
        rintro e2 w2 ⟨v2, rfl, own2, g2⟩
        have hr2 := OwnI.rd (w := w) own2
        obtain ⟨a2, c2, rfl, z1, z2⟩ := slice_of_rd hr2
        have b2 := chain bel g2
        have own3 := own_keep hown g2
        clear own2 CU g2 hown bel
        go_wp2_with (at_builtin; refine wpList_app_rdk itC_len (by decide) w rfl (.tmp 30) (.tmp 31) 23 rfl w.heap.size 154 i0 (.agg #[.string ⟨#[]⟩, .int .i64 0, .int .i64 0, .string ⟨#[]⟩, .int .i64 0]) 56 Tryz.underlying23 hi hz0 hz1 hz2 rfl _ acc rfl own3 _ its rfl hr2 itC_one (by unfold maxLen; omega) (by omega) (Nat.le_refl _) b2 ?_; intro v9 w9 own9 b9 hq9; clear hq9)
        exact ⟨⟨j + 1, acc ++ its, odd2, by omega, by push_cast; rfl, by simp; omega, HO2, HK, HP2, HS2, own9, b9⟩, by simp [intOf]; omega⟩
      · have HN := Lib.hid (show R = ([], e, (j : Int)) by rw [HRl.out, ← HC.out, hdr, ofGo_err hce he]; simp [ofE, he])
        have hen := (V7.bne_int he).1
        clear hce hdr HC HS he hcc HO HP
        go_wp2_with fail
        refine CU.mono ?_
        rintro e2 w2 ⟨v2, rfl, own2, g2⟩
        have b2 := chain bel g2
        clear g2 own2 CU
        go_wp2_with fail
        go_ret3
        exact end3_no HN.out rfl rfl b2
    · obtain rfl : j = ls.length := by omega
      obtain ⟨w1, rfl⟩ : ∃ w1, w1 = wr := ⟨_, rfl⟩
      have HE := Lib.hid (show R = ofE ls.length (acc, odd, 0, ls.length) by rw [HRl.out, ← HC.out, List.drop_length]; rfl)
      have hrd := OwnI.rd (w := w) hown
      obtain ⟨a2, c2, rfl, k1, k2⟩ := slice_of_rd hrd
      have CK0 := fun W t h => check_any (.slice a2 acc.length c2) acc W t h HS.out
      obtain ⟨S, hS⟩ : ∃ S, S = (chkL acc).1 := ⟨_, rfl⟩
      obtain ⟨S2, hS2⟩ : ∃ S, S = (chkL acc).2 := ⟨_, rfl⟩
      have RC0 := fun W t h => refCheck_any (.slice a2 acc.length c2) acc W t h HS.out
      rw [← hS, ← hS2] at RC0
      have RC := Lib.hid RC0
      have HSS := Lib.hid hS
      have RA := Lib.hid hrd
      have OW := Lib.hid hown
      have BE := Lib.hid bel
      have TW := Lib.hid (tab.below bel)
      have BW := Lib.hid (Below.refl w1.heap.size w1)
      clear CK0 RC0 hS hS2 hrd hown bel tab HC HRl hlt
      go_wp2_with fail
      go_loopw [9] (fun i wq => ∃ q : Nat, q ≤ ls.length ∧ i = .int .i64 (q : Int) ∧ Hid (∀ k, k < q → headB (ls.getD k []) = 8) ∧ Hid (wq = w1)) (fun i _ => 5000 - (intOf i).toNat)
      case atStart => exact ⟨0, Nat.zero_le _, rfl, Lib.hid (fun k hk => by omega), Lib.hid rfl⟩
      case round =>
        obtain ⟨q, hq, rfl, HQ, HWQ⟩ := hrel
        have hwq := HWQ.out
        subst hwq
        by_cases hlq : q + 1 < ls.length
        · obtain ⟨b, off, rfl, hb, hc⟩ := rdk_sC (HRD.out.below BE.out (Nat.le_refl _)) q (by omega)
          obtain ⟨c, hcc⟩ : ∃ c, c = ls.getD q [] := ⟨_, rfl⟩
          rw [← hcc] at hc
          have hpos : 0 < c.length := by rw [hcc]; exact HP.out q (by omega)
          have hz : (str c).size = c.length := str_size c
          obtain ⟨H, hH⟩ : ∃ H, H = headB c := ⟨_, rfl⟩
          have hb0 : ∀ h : 0 < (str c).size, ((str c)[0]'h).toNat = H := fun h => by rw [str_byte, hH]; rfl
          have hq1 : decide ((q : Int) + 1 < (ls.length : Int)) = true := by rw [decide_eq_true_eq]; omega
          have HH := Lib.hid (show H = headB (ls.getD q []) by rw [hH, hcc])
          clear hH hcc
          by_cases h8 : H = 8
          · subst h8
            have HQ2 := Lib.hid (show ∀ k, k < q + 1 → headB (ls.getD k []) = 8 by
              intro k hk
              by_cases h : k = q
              · subst h; exact HH.out.symm
              · exact HQ.out k (by omega))
            go_wp2_with fail
            exact ⟨⟨q + 1, by omega, by push_cast; rfl, HQ2, by first | exact HWQ | exact Lib.hid trivial⟩, by simp [intOf]; omega⟩
          · have HN := Lib.hid (show R = ([], 3, (q : Int)) by
              have ho := oddI_at HO.out (show q < ls.length by omega) HQ.out (by rw [← HH.out]; exact h8)
              rw [HE.out, ho]; unfold ofE; simp only [ne_eq, not_true_eq_false, if_false]; rw [if_pos ⟨by omega, by omega⟩])
            have g8 : ((H : Int) != 8) = true := by rw [bne_iff_ne]; omega
            have H8 := Lib.hid h8
            clear h8
            go_wp2_with fail
            go_ret3
            exact end3_no (E := 3) HN.out rfl rfl BE.out
        · have HB := Lib.hid (show ¬ (0 ≤ odd ∧ odd + 1 < (ls.length : Int)) from oddI_end HO.out (fun k hk => HQ.out k (by omega)))
          have hq1 : decide ((q : Int) + 1 < (ls.length : Int)) = false := by rw [decide_eq_false_iff_not]; omega
          have CK := RC.out _ TW.out RA.out
          by_cases hS0 : S = 0
          · subst hS0
            go_wp2_with fail
            refine CK.mono ?_
            rintro e2 w2 ⟨rfl, g2⟩
            have FIN := Lib.hid (end3 HE.out HB.out HSS.out.symm (own_keep OW.out g2) (chain BE.out g2))
            clear CK g2
            go_wp2_with fail
            go_ret3
            exact FIN.out
          · have HN := Lib.hid (show R = ([], S, (ls.length : Int)) by rw [HE.out]; unfold ofE; simp only [ne_eq, not_true_eq_false, if_false, if_neg HB.out, ← HSS.out, if_pos hS0])
            have hen := (V7.bne_int hS0).1
            clear hS0
            go_wp2_with fail
            refine CK.mono ?_
            rintro e2 w2 ⟨rfl, g2⟩
            have b2 := chain BE.out g2
            clear CK g2
            go_wp2_with fail
            go_ret3
            exact end3_no HN.out rfl rfl b2
end Go.Proofs.YtoagdmglchccnaaGreatDoor
