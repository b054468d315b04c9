/- Span: the law SpanUnder. Written by wip/tools/gen11u4.py. -/
/- Keys: what the row's listed variable gives a walk: the table of bytes. -/
import Derived.Test.YtmjedjhkhjiigaaDoorQSSC46
import Derived.Test.YtmjedjhkhjiigaaDoorQSSC47
import Derived.Test.YtmjedjhkhjiigaaDoorQSSC48
import Derived.Test.YtmjedjhkhjiigaaDoorRows
import Derived.Test.YtmjedjhkhjiigaaDoorQSSC6
import Derived.ProofKit
import Derived.LaidMore
import Derived.OpenShut
import Derived.Stop.Joined
namespace Go.Proofs.YtmjedjhkhjiigaaDoor
open Go Go.RowKit
set_option linter.unusedVariables false
set_option linter.unusedSimpArgs false
set_option maxRecDepth 100000
theorem ck_two {lv : Nat → List It} {vs : Nat → Int} (k : List UInt8) : ckE lv vs [k, k] = ckE lv vs [k] := by unfold ckE; simp
set_option maxHeartbeats 2000000 in
theorem under_row (cs : Array Value) (lv : Nat → List It) (vs : Nat → Int) (k : List UInt8) (w : World) (h : RdT w cs lv vs) (hsz : SzT lv) (hwf : WfT lv) (hk : k.length ≤ maxLen) (tab : TabAt w) :
    Calls Tryd.prog 9 #[.agg cs, .string (str k)] w fun e w' => e = .returned (.bool true) ∧ Below w.heap.size w w' := by
  have TAB := Lib.hid tab
  have hs0 := infoTc h.size
  have z0 := zeroT_run
  have z1 := zT_ne
  obtain ⟨ks, hks⟩ : ∃ ks, ks = k.take 60 := ⟨_, rfl⟩
  have SH := fun W => short11_any k W hk
  have kk : ks.length ≤ maxLen := by rw [hks]; exact Nat.le_trans (List.length_take_le _ _) (by decide)
  rw [← hks] at SH
  have SHH := Lib.hid SH
  obtain ⟨lF, hlF⟩ : ∃ lF, lF = fun b => fewL (lv b) := ⟨_, rfl⟩
  have szF : SzT lF := by rw [hlF]; exact fewT_sz lv
  have lenF : ∀ b, b < 16 → (lF b).length ≤ 100 := by rw [hlF]; exact fewT_len lv
  have q2 := heap_alloc_new w (.cells cs 26)
  have bel := (Below.refl w.heap.size w).alloc (Nat.le_refl _) (.cells cs 26)
  have FW0 := few10_any cs lv vs _ (h.below bel (Nat.le_refl _)) hsz
  unfold FewP at FW0
  rw [← hlF] at FW0
  have FW := Lib.hid FW0
  have hsz0 := h.size
  clear h hsz tab hlF FW0 SH hks hwf
  go_enter Tryd.func9, Tryd.ntmps9
  go_wp2_with ((with_reducible refine wpList_load_row (o := ⟨some 15, _, _, _, _, _⟩) rfl 26 (.tmp 2) rfl _ rfl _ cs (0, 0) _ q2 Tryd.underlying26 rfl hs0 ?_))
  refine FW.out.mono ?_
  rintro e v1 ⟨CF, rfl, own, g⟩
  have hl0 : w.heap.size + 1 = (w.alloc (.cells cs 26)).heap.size := by simp
  rw [← hl0] at own
  have q2 := (g.block _ (lt_of_block q2)).trans q2
  have bel := chain bel g
  clear g hl0
  go_wp2_with fail
  refine (SHH.out _).mono ?_
  rintro e w' ⟨rfl, rfl⟩
  have hsF := infoTc own.size
  have hcF : cs.size = CF.size := by rw [own.size]; exact hsz0
  have hoF := own.rd.one
  go_wp2_with (first | ((with_reducible refine wpList_load_row (o := ⟨some 20, _, _, _, _, _⟩) rfl 26 (.tmp 2) rfl _ rfl _ CF (0, 0) _ q2 Tryd.underlying26 rfl hsF ?_)) | ((with_reducible refine wpList_store_row (o := ⟨none, _, _, _, _, _⟩) rfl 26 (.tmp 2) (.tmp 16) rfl _ CF rfl rfl _ cs q2 hsF hcF hoF ?_); (obtain ⟨WS, hWS⟩ : ∃ W, W = World.setRow v1 w.heap.size CF := ⟨_, rfl⟩); rw [← hWS]; (have bel := below_row bel (Nat.le_refl _) CF); (have own := own.row q2 CF); (have q2 := setRow_heap v1 w.heap.size _ CF _ _ q2); rw [← hWS] at bel own q2; clear hWS))
  have HT := Lib.hid own.rd
  have Q2 := Lib.hid q2
  have BW := Lib.hid bel
  have TS := Lib.hid (TAB.out.below bel)
  have hS := Below.refl WS.heap.size WS
  clear q2 bel own hcF hoF
  have UN0 := fun W (g : Below WS.heap.size WS W) => under11_any CF lF vs ks W (TS.out.below g) (HT.out.below g (Nat.le_refl _)) szF kk
  have NM0 := fun W (g : Below WS.heap.size WS W) => names_any CF lF vs ks W (TS.out.below g) (HT.out.below g (Nat.le_refl _)) szF kk
  have WR0 := fun W (g : Below WS.heap.size WS W) => wrong_any CF lF vs ks ks W (TS.out.below g) (HT.out.below g (Nat.le_refl _)) szF lenF kk kk
  rw [ck_two] at WR0
  obtain ⟨UL, hUL⟩ : ∃ X, X = unL lF vs ks := ⟨_, rfl⟩
  obtain ⟨NL, hNL⟩ : ∃ X, X = nmsL lF vs ks := ⟨_, rfl⟩
  obtain ⟨E, hE⟩ : ∃ X, X = ckE lF vs [ks] := ⟨_, rfl⟩
  obtain ⟨ez, hez⟩ : ∃ z : Int, z = (E : Int) := ⟨_, rfl⟩
  rw [← hUL, ← hE, ← hez] at UN0
  rw [← hNL, ← hE, ← hez] at NM0
  rw [← hE, ← hez] at WR0
  have UN := Lib.hid UN0
  have NM := Lib.hid NM0
  have WR := Lib.hid WR0
  have AW := Lib.hid (fun W (g : Below WS.heap.size WS W) => awake11_any W (TS.out.below g))
  have HUL := Lib.hid hUL
  have HNL := Lib.hid hNL
  have HE := Lib.hid hE
  have HEZ := Lib.hid hez
  have h8 := hS
  clear UN0 NM0 WR0 hUL hNL hE hez z0 z1 hS
  refine (UN.out _ h8).mono ?_
  rintro e v1 ⟨vU, rfl, ownU, g⟩
  obtain ⟨aU, kU, rfl, -, -, RU⟩ := RdK.open (OwnI.rd (w := v1) ownU)
  replace h8 := chain h8 g
  have q2 := (h8.block _ (lt_of_block Q2.out)).trans Q2.out
  clear g ownU
  go_wp2_with ((with_reducible refine wpList_load_row (o := ⟨some 26, _, _, _, _, _⟩) rfl 26 (.tmp 2) rfl _ rfl _ CF (0, 0) _ q2 Tryd.underlying26 rfl hsF ?_))
  refine (NM.out _ h8).mono ?_
  rintro e v2 ⟨vN, rfl, ownN, g⟩
  obtain ⟨aN, kN, rfl, -, -, RN⟩ := RdK.open (own_rdk svS_len ownN)
  replace h8 := chain h8 g
  replace q2 := (h8.block _ (lt_of_block Q2.out)).trans Q2.out
  replace RU := RdK.below RU g (Nat.le_refl _)
  clear g ownN
  go_wp2_with ((with_reducible refine wpList_load_row (o := ⟨some 31, _, _, _, _, _⟩) rfl 26 (.tmp 2) rfl _ rfl _ CF (0, 0) _ q2 Tryd.underlying26 rfl hsF ?_))
  refine (WR.out _ h8).mono ?_
  rintro e v3 ⟨rfl, g⟩
  replace h8 := chain h8 g
  replace q2 := (h8.block _ (lt_of_block Q2.out)).trans Q2.out
  replace RU := RdK.below RU g (Nat.le_refl _)
  replace RN := RdK.below RN g (Nat.le_refl _)
  clear g UN NM WR
  by_cases hc : E = 0
  · have hmp : mayTs lF vs 16 = true ∧ patB ks = true := by
      have h0 := HE.out.symm.trans hc
      cases hm : mayTs lF vs 16 with
      | false => rw [ck_no hm] at h0; exact absurd h0 (by decide)
      | true =>
        cases hp : patB ks with
        | true => exact ⟨rfl, rfl⟩
        | false => rw [ck_form hm (by simp [hp])] at h0; exact absurd h0 (by decide)
    obtain ⟨hmy, hpt⟩ := hmp
    obtain ⟨i0, hi, hz0, hz1, hz2⟩ := info_parts item_info
    have AL0 := fun W (g : Below WS.heap.size WS W) => refAll11_any CF lF vs W (HT.out.below g (Nat.le_refl _)) szF lenF
    have DN0 := fun W (g : Below WS.heap.size WS W) => names11_any CF lF vs ks W (TS.out.below g) (HT.out.below g (Nat.le_refl _)) szF lenF hmy kk
    obtain ⟨A, hA⟩ : ∃ L, L = allS lF := ⟨_, rfl⟩
    have u0 : unL lF vs ks = A.filter (fun x => Lib.hasPrefix x.key ks) := by
      unfold unL; rw [← HE.out, if_pos hc, rng_under hmy hpt, hA]; rfl
    have u1 : UL = A.filter (fun x => Lib.hasPrefix x.key ks) := by rw [HUL.out, u0]
    have n1 : NL = dnL A ks := by rw [HNL.out]; unfold nmsL; rw [compact_sort]; unfold nmsU dnL; rw [u0]
    have HLA := Lib.hid (show A.length ≤ 1024 by rw [hA]; exact allS_len hmy)
    have HSA := Lib.hid (show SzI A by rw [hA]; exact allS_sz szF)
    have HLU := Lib.hid (show UL.length ≤ 1024 by rw [u1]; exact Nat.le_trans (List.length_filter_le _ _) HLA.out)
    have HLN := Lib.hid (show NL.length ≤ 1024 by
      rw [HNL.out]; unfold nmsL
      refine Nat.le_trans (compact_len _) ?_
      rw [List.length_mergeSort]; unfold nmsU; rw [List.length_map]; exact un_len)
    rw [← hA] at AL0 DN0
    rw [← n1] at DN0
    have AL := Lib.hid AL0
    have DN := Lib.hid DN0
    have U1 := Lib.hid u1
    have e5 : ez = 0 := by rw [HEZ.out, hc]; rfl
    clear AL0 DN0 hA u0 u1 n1 HUL HNL HE HEZ hc hmy hpt
    subst e5
    go_wp2_with ((with_reducible refine wpList_load_row (o := ⟨some 58, _, _, _, _, _⟩) rfl 26 (.tmp 2) rfl _ rfl _ CF (0, 0) _ q2 Tryd.underlying26 rfl hsF ?_))
    refine (AL.out _ h8).mono ?_
    rintro e v5 ⟨vA, rfl, ownA, g⟩
    obtain ⟨aA, kA, rfl, -, -, RA⟩ := RdK.open (OwnI.rd (w := v5) ownA)
    replace h8 := chain h8 g
    have RU5 := Lib.hid (RdK.below RU g (Nat.le_refl _))
    have RN5 := Lib.hid (RdK.below RN g (Nat.le_refl _))
    have RDL := Lib.hid (show RdI v5 (.slice aA A.length kA) A from RA)
    have H8 := Lib.hid h8
    clear g ownA RU RN RA q2 AL h8
    go_wp2_with fail
    go_loopw [10, 12] (fun o i wr => ∃ (j : Nat) (acc : List It), j ≤ A.length ∧ i = .int .i64 (j : Int) ∧ acc.length ≤ j ∧ Hid (acc = (A.take j).filter (fun x => Lib.hasPrefix x.key ks)) ∧ wr.ownsRow v5.heap.size 32 5 o acc.length (acc.flatMap itC) ∧ Below v5.heap.size v5 wr) (fun _ i _ => 3000 - (intOf i).toNat)
    case atStart => exact ⟨0, [], Nat.zero_le _, rfl, Nat.le_refl _, Lib.hid rfl, World.ownsRow_nil _ _ _ _, Below.refl _ _⟩
    case round =>
      obtain ⟨j, acc, hj, rfl, hacc, HA, hown, bel⟩ := hrel
      by_cases hlt : j < A.length
      · have R1 := RDL.out.below bel (Nat.le_refl _)
        obtain ⟨b, off, rfl, hb, c0, c1, c2, c3, c4⟩ := rdi_cells R1 j hlt
        obtain ⟨x, hx⟩ : ∃ x, x = A[j]'hlt := ⟨_, rfl⟩
        rw [← hx] at c0 c1 c2 c3 c4
        have hxk : x.key.length ≤ maxLen := by rw [hx]; exact (HSA.out _ (List.getElem_mem _)).1
        have BG0 := begins_any x.key ks hxk kk wr (TS.out.below (chain H8.out bel))
        have HX := Lib.hid (show (A.take (j + 1)).filter (fun x => Lib.hasPrefix x.key ks) = acc ++ (if Lib.hasPrefix x.key ks then [x] else []) by rw [filter_succ hlt, ← HA.out, ← hx])
        have HOW := Lib.hid hown
        have hn := HLA.out
        have BB := Lib.hid bel
        clear hx R1 hown
        cases hin : Lib.hasPrefix x.key ks with
        | true =>
          rw [hin] at BG0
          have BG := Lib.hid BG0
          have HX2 := Lib.hid (show acc ++ [x] = (A.take (j + 1)).filter (fun x => Lib.hasPrefix x.key ks) by rw [HX.out, hin]; rfl)
          clear BG0 hin HX
          go_wp2_with (first | ((with_reducible refine BG.out.mono ?_); rintro e w5 ⟨rfl, rfl⟩) | (at_builtin; refine wpList_app1k itC_len (by decide) v5 rfl (.tmp 73) (.tmp 78) 22 rfl v5.heap.size 32 i0 (.agg #[.string ⟨#[]⟩, .int .i64 0, .int .i64 0, .string ⟨#[]⟩, .int .i64 0]) 56 Tryd.underlying22 hi hz0 hz1 hz2 rfl _ _ rfl HOW.out _ x _ rfl rfl itC_one (by unfold maxLen; omega) (by omega) (Nat.le_refl _) BB.out ?_; intro v' w1 hown2 hb2 hq2; clear hq2))
          exact ⟨⟨j + 1, acc ++ [x], by omega, by push_cast; rfl, by simp; omega, HX2, hown2, hb2⟩, by simp [intOf]; omega⟩
        | false =>
          rw [hin] at BG0
          have BG := Lib.hid BG0
          have HX2 := Lib.hid (show acc = (A.take (j + 1)).filter (fun x => Lib.hasPrefix x.key ks) by rw [HX.out, hin]; simp)
          clear BG0 hin HX
          go_wp2_with ((with_reducible refine BG.out.mono ?_); rintro e w5 ⟨rfl, rfl⟩)
          exact ⟨⟨j + 1, acc, by omega, by push_cast; rfl, by omega, HX2, HOW.out, BB.out⟩, by simp [intOf]; omega⟩
      · obtain rfl : j = A.length := by omega
        have ha : acc = UL := by rw [HA.out, List.take_length, U1.out]
        subst ha
        obtain ⟨aW, kW, rfl, -, -, RW⟩ := RdK.open (OwnI.rd (w := v5) hown)
        have h8 := chain H8.out bel
        have RU := RdK.below RU5.out bel (Nat.le_refl _)
        have RN := RdK.below RN5.out bel (Nat.le_refl _)
        have q2 := (h8.block _ (lt_of_block Q2.out)).trans Q2.out
        clear HA hown bel
        go_wp2_with ((with_reducible refine wpList_load_row (o := ⟨some 80, _, _, _, _, _⟩) rfl 26 (.tmp 2) rfl _ rfl _ CF (0, 0) _ q2 Tryd.underlying26 rfl hsF ?_))
        refine (DN.out _ h8).mono ?_
        rintro e v6 ⟨vD, rfl, RD, g⟩
        obtain ⟨aD, kD, rfl, -, -, RD⟩ := RdK.open RD
        replace h8 := chain h8 g
        replace RU := RdK.below RU g (Nat.le_refl _)
        replace RN := RdK.below RN g (Nat.le_refl _)
        replace RW := RdK.below RW g (Nat.le_refl _)
        have SM := Lib.hid (refSame11_yes (.slice aU acc.length kU) (.slice aW acc.length kW) acc v6 RU RW (by have := HLU.out; omega))
        clear g q2
        go_wp2_with ((with_reducible refine SM.out.mono ?_); rintro e v7 ⟨rfl, n1, hw⟩; (have b1 : Below v6.heap.size v6 v7 := (by rw [hw]; exact below_drewN (Below.refl _ _))); (replace h8 := chain h8 b1); (replace RN := RdK.below RN b1 (Nat.le_refl _)); (replace RD := RdK.below RD b1 (Nat.le_refl _)); clear hw b1)
        have HRN := Lib.hid RN
        have HRD := Lib.hid RD
        have H9 := Lib.hid h8
        have hn := HLN.out
        clear RN RD RU RW h8
        go_loopw [14] (fun i wr => ∃ (j n0 : Nat), j ≤ NL.length ∧ i = .int .i64 (j : Int) ∧ Hid (wr = v7.drewN n0)) (fun i _ => 4000 - (intOf i).toNat)
        case atStart => exact ⟨0, 0, Nat.zero_le _, rfl, (rfl : v7 = v7.drewN 0)⟩
        case round =>
          obtain ⟨j, n0, hj, rfl, HW⟩ := hrel
          have bel : Below v7.heap.size v7 wr := by rw [HW.out]; exact below_drewN (Below.refl _ _)
          by_cases hlt : j < NL.length
          · have R1 := RdK.below HRN.out bel (Nat.le_refl _)
            have R2 := RdK.below HRD.out bel (Nat.le_refl _)
            obtain ⟨b, off, rfl, hb, c0⟩ := rds_cell R1 j hlt
            obtain ⟨b2, off2, rfl, hb2, d0⟩ := rds_cell R2 j hlt
            obtain ⟨x, hx⟩ : ∃ x, x = NL[j]'hlt := ⟨_, rfl⟩
            rw [← hx] at c0 d0
            clear hx R1 R2
            go_wp2_with fail
            go_quiet (fail)
            have bel2 : Hid (wr.drewN nq = v7.drewN (n0 + nq)) := by have h := HW.out; exact Lib.hid (by rw [h, World.drewN_drewN])
            go_wp2_with fail
            exact ⟨⟨j + 1, n0 + nq, by omega, by push_cast; rfl, bel2⟩, by simp [intOf]; omega⟩
          · obtain rfl : j = NL.length := by omega
            have h8 := chain H9.out bel
            clear bel HW
            go_wp2_with ((with_reducible refine (AW.out _ h8).mono ?_); rintro e uz ⟨rfl, gz⟩; (replace h8 := chain h8 gz))
            go_ret
            exact ⟨rfl, chain BW.out h8⟩
  · have e1 : UL.length = 0 := by rw [HUL.out]; unfold unL; rw [← HE.out, if_neg hc]; rfl
    have e2 : NL.length = 0 := by
      rw [HNL.out]; unfold nmsL; rw [compact_sort]; unfold nmsU unL; rw [← HE.out, if_neg hc]; rfl
    have d1 : (ez != 0) = true := by rw [HEZ.out]; simp; omega
    rw [e1, e2]
    clear HUL HNL HE HEZ hc e1 e2 RU RN q2
    go_wp2_with ((with_reducible refine (AW.out _ h8).mono ?_); rintro e uz ⟨rfl, gz⟩; (replace h8 := chain h8 gz))
    go_ret
    exact ⟨rfl, chain BW.out h8⟩
end Go.Proofs.YtmjedjhkhjiigaaDoor
namespace Go.Proofs.YtmjedjhkhjiigaaDoor
open Go Go.ChangeShapes Go.WideShapes Go.ChangeAt Go.RowKit
set_option linter.unusedVariables false
def laid1 : List (String × DataW Unit) := [("plenum/key.allowed", Rows.laid_plenum_key_allowed)]
theorem gTab : Tryd.prog.globalNamed "plenum/key.allowed" = some 0 := by kernel_rfl
theorem tTab : (Tryd.prog.globals[0]?).map (·.type) = some 152 := by kernel_rfl
theorem cU64 : Tryd.prog.cellsOf 90 = 1 := by kernel_rfl
theorem cTab : Tryd.prog.cellsOf 152 = 2 := by kernel_rfl
def tabL : List Int := [288195191779622912, 576460745860972544]
theorem laid_tab {H : Type} : (Rows.laid_plenum_key_allowed : DataW H) = .agg (tabL.map fun n => .lit (.int .u64 n)) := rfl
theorem tab_of_laid {W : World} (h : laidMetH Tryd.prog laid1 W) : TabAt W := by
  rw [MakeChecks.laidMetH_plain _ _ _ (by kernel_rfl)] at h
  obtain ⟨ps, ⟨g0, t0, cs0, f0, p0, q0, hg0, ht0, hv0, hd0, _, _⟩, _, _⟩ := h
  obtain rfl := Option.some.inj (gTab.symm.trans hg0)
  obtain rfl := Option.some.inj (tTab.symm.trans ht0)
  obtain ⟨xs, m1, rfl, hx1, hlen, hn, hel⟩ := DataW.trod_array Tryd.underlying152 hd0
  simp only [Prod.mk.injEq] at hx1
  have hx := hx1.1
  rw [laid_tab] at hx
  simp only [DataW.agg.injEq] at hx
  rw [cTab] at hlen
  have cell : ∀ i, i < 2 → W.cell? ⟨0, i, none⟩ = some (.int .u64 (tabL.getD i 0)) := by
    intro i hi
    have h1 := hel i hi
    rw [cU64, Nat.mul_one] at h1
    obtain ⟨x, hxi⟩ : ∃ x, xs[i]? = some x := ⟨xs[i]'(by omega), by simp [hn, hi]⟩
    rw [hxi] at h1
    obtain ⟨k, e1, e2, _⟩ := DataW.trod_int Tryd.underlying90 h1
    have h3 : (xs.map (·.1))[i]? = some (.lit (.int .u64 k)) := by rw [List.getElem?_map, hxi, e2]; rfl
    rw [← hx, List.getElem?_map] at h3
    have h4 : tabL[i]? = some (tabL.getD i 0) := by
      have : i < tabL.length := hi
      simp [this]
    rw [h4] at h3
    simp at h3
    have h5 := World.var?_cell hg0 hv0 i
    have h6 : cs0[i]? = some (.int .u64 k) := by
      have : (cs0.toList.drop i)[0]? = some (.int .u64 k) := by
        have := congrArg (fun l => l[0]?) e1
        simpa [List.getElem?_take] using this
      simpa using this
    rw [h5, h6]
    simp [h3]
  refine ⟨?_, cell 0 (by decide), cell 1 (by decide)⟩
  have := World.block_lt_of_cell? W _ (cell 0 (by decide))
  simpa using this
end Go.Proofs.YtmjedjhkhjiigaaDoor
