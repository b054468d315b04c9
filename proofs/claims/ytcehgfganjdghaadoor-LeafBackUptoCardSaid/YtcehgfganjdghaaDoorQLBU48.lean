/- The law LeafBack, of no more chunks than a million. Written by wip/tools/gen9u.py. -/
/- Keys: what the row's listed variable gives a walk: the table of bytes. -/
import Derived.Test.YtcehgfganjdghaaDoorQLBU47
import Derived.Test.YtcehgfganjdghaaDoorRows
import Derived.Test.YtcehgfganjdghaaDoorQLBU8
import Derived.ProofKit
import Derived.LaidMore
import Derived.OpenShut
import Derived.Stop.Joined
namespace Go.Proofs.YtcehgfganjdghaaDoor
open Go Go.RowKit
set_option linter.unusedVariables false
set_option linter.unusedSimpArgs false
theorem ofL_err {vf : Nat → Int} {ls : List (List UInt8)} (h : (ofL vf ls).2.1 ≠ 0) : (ofL vf ls).1 = [] := by
  obtain ⟨all, odd, e, i, hg⟩ : ∃ a b c d, ofGo vf ls 0 [] (-1) = (a, b, c, d) := ⟨_, _, _, _, rfl⟩
  unfold ofL at h ⊢
  rw [hg] at h ⊢
  unfold ofE at h ⊢
  simp only at h ⊢
  by_cases h1 : e = 0
  · rw [if_neg (by simp [h1])] at h ⊢
    by_cases h2 : 0 ≤ odd ∧ odd + 1 < (ls.length : Int)
    · rw [if_pos h2]
    · rw [if_neg h2] at h ⊢
      by_cases h3 : (chkL all).1 = 0
      · rw [if_neg (by simp [h3])] at h; exact absurd rfl h
      · rw [if_pos h3]
  · rw [if_pos h1]
theorem isL_sz {y : List It} (h : isL y = true) : SzI y := by
  intro x hx
  have := may_sz (isL_may h x hx)
  unfold maxLen
  exact ⟨by omega, by omega⟩
set_option maxRecDepth 100000 in
set_option maxHeartbeats 4000000 in
theorem back_row (v : Value) (l : List It) (u : Value) (chs : List (List UInt8)) (w : World) (h : RdI w v l) (hsz : SzI l) (hwf : WfI l) (hp : RdP w u chs) (hn : chs.length ≤ 1048576) (tab : TabAt w) :
    Calls Tryd.prog 7 #[v, u] w fun e w' => e = .returned (.bool true) ∧ Below w.heap.size w w' := by
  obtain ⟨us0, hk0, hu0⟩ := rdk_of_rdp hp
  have hul := hu0.1
  obtain ⟨N, hN⟩ : ∃ N, N = chs.length := ⟨_, rfl⟩
  obtain ⟨ao0, cap0, rfl, hc0, hm0, hk0⟩ := hk0.openN (N := N) (by omega)
  have FW := few9_any v l w h hsz
  obtain ⟨L, hL⟩ : ∃ L, L = fewL l := ⟨_, rfl⟩
  have HS := Lib.hid (show SzI L by rw [hL]; exact fewL_sz hsz)
  have HW := Lib.hid (show WfI L by rw [hL]; exact fewL_wf hwf)
  have h66 : L.length ≤ 66 := by rw [hL]; exact fewL_len l
  rw [← hL] at FW
  have HP := Lib.hid hp
  have HK0 := Lib.hid hk0
  have HU0 := Lib.hid hu0
  have T0 := Lib.hid tab
  have HN := Lib.hid hN
  have hN2 : N ≤ 1048576 := by omega
  clear hL h hsz hwf hp tab hk0 hu0 hul hN hn
  go_enter Tryd.func7, Tryd.ntmps7
  go_wp2_with fail
  refine FW.mono ?_
  rintro e w1 ⟨v1, rfl, own1, b1⟩
  have hr1 := OwnI.rd (w := w) own1
  obtain ⟨ao, cap, rfl, k1, k2⟩ := slice_of_rd hr1
  have RDL := Lib.hid hr1
  have T1 := Lib.hid (T0.out.below b1)
  have B1 := Lib.hid b1
  have IS := lawIs9_any _ L w1 T1.out hr1 HS.out
  clear FW own1 hr1 b1
  go_wp2_with fail
  refine IS.mono ?_
  rintro e w2 ⟨rfl, g2⟩
  have B2 := Lib.hid g2
  clear IS g2
  go_upto_if 16 with fail
  go_cut [] (fun wx => Below w1.heap.size w1 wx)
  case first =>
    cases hl : isL L with
    | false =>
      go_wp2_with fail
      go_meet
      case rel => exact B2.out
    | true =>
      have CHB := chunks_yes ao cap L w2 (T1.out.below B2.out) (RDL.out.below B2.out (Nat.le_refl _)) hl HS.out HW.out
      have OB := Lib.hid (of_back hl HW.out)
      have hcl : (chunksL L).length ≤ 20 := by unfold chunksL starts; simp; omega
      go_wp2_with fail
      refine CHB.mono ?_
      rintro e w3 ⟨v3, vs3, rfl, own3, row3, g3⟩
      obtain ⟨rk3, ru3⟩ := chR_rd own3 row3
      have OF := of9_any v3 (chunksL L) w3 ((T1.out.below B2.out).below g3) (rdp_of_rdk rk3 ru3) (by omega)
      rw [OB.out] at OF
      have B3 := Lib.hid (chain B2.out g3)
      clear CHB own3 row3 g3 rk3 ru3
      go_wp2_with fail
      refine OF.mono ?_
      rintro e w4 ⟨v4, rfl, own4, g4⟩
      have rd4 := OwnI.rd (w := w) own4
      obtain ⟨a4, c4, rfl, k41, k42⟩ := slice_of_rd rd4
      have B4 := Lib.hid (chain B3.out g4)
      have SM := refSame_yes (.slice a4 L.length c4) (.slice ao L.length cap) L w4 rd4 (RDL.out.below B4.out (Nat.le_refl _)) (by omega)
      clear OF own4 rd4 g4
      go_wp2_with fail
      refine SM.mono ?_
      rintro e w5 ⟨rfl, m5, hw5⟩
      have B5 := Lib.hid (show Below w1.heap.size w1 w5 by rw [hw5]; exact below_drewN B4.out)
      clear SM hw5
      go_wp2_with fail
      go_meet
      case rel => exact B5.out
  case rest =>
    obtain ⟨w6, rfl⟩ : ∃ w6, w6 = wc := ⟨_, rfl⟩
    have B6 := Lib.hid (chain B1.out hcut)
    have T6 := Lib.hid (T1.out.below hcut)
    have OF := of9_any (.slice ao0 N cap0) chs w6 T6.out (HP.out.below B6.out) (by rw [← HN.out]; exact hN2)
    obtain ⟨y, hy⟩ : ∃ y, y = (ofL vfP chs).1 := ⟨_, rfl⟩
    obtain ⟨E, hE⟩ : ∃ y, y = (ofL vfP chs).2.1 := ⟨_, rfl⟩
    obtain ⟨Z, hZ⟩ : ∃ y, y = (ofL vfP chs).2.2 := ⟨_, rfl⟩
    rw [← hy, ← hE, ← hZ] at OF
    have HERR := Lib.hid (show E ≠ 0 → y = [] by intro h; rw [hy]; exact ofL_err (by rw [← hE]; exact h))
    have HOK := Lib.hid (show E = 0 → isL y = true ∧ WfI y ∧ chunksL y = chs by intro h; exact of_inv (at_ := Z) (by rw [hy, hZ]; exact Prod.ext rfl (Prod.ext (by rw [← hE]; exact h) rfl)))
    clear hcut hy hE hZ RDL B2
    go_wp2_with fail
    refine OF.mono ?_
    rintro e w7 ⟨v7, rfl, own7, g7⟩
    have rd7 := OwnI.rd (w := w) own7
    have T7 := Lib.hid (T6.out.below g7)
    have B7 := Lib.hid (chain B6.out g7)
    clear OF own7 g7
    by_cases hE0 : E = 0
    · subst hE0
      obtain ⟨hly, hwy, hch⟩ := HOK.out rfl
      obtain ⟨a7, c7, rfl, k71, k72⟩ := slice_of_rd rd7
      have RD7 := Lib.hid rd7
      have hsy := isL_sz hly
      have CHB := chunks_yes a7 c7 y w7 T7.out rd7 hly hsy hwy
      rw [hch] at CHB
      have HSY := Lib.hid hsy
      have HLY := Lib.hid hly
      clear rd7 hsy hwy hch hly HERR HOK
      go_wp2_with fail
      refine CHB.mono ?_
      rintro e w8 ⟨v8, vs8, rfl, own8, row8, g8⟩
      obtain ⟨rk8, ru8⟩ := chR_rd own8 row8
      have hv8 : vs8.length = N := by rw [ru8.1, HN.out]
      obtain ⟨a8, c8, rfl, hc8, hm8, rk8⟩ := rk8.openN hv8
      have RK8 := Lib.hid rk8
      have RU8 := Lib.hid ru8
      have HV8 := Lib.hid hv8
      have IS8 := lawIs9_any _ y w8 (T7.out.below g8) (RD7.out.below g8 (Nat.le_refl _)) HSY.out
      rw [HLY.out] at IS8
      have B8 := Lib.hid (chain B7.out g8)
      have T8 := Lib.hid (T7.out.below g8)
      clear CHB own8 row8 rk8 ru8 hv8 g8
      go_wp2_with fail
      refine IS8.mono ?_
      rintro e w9 ⟨rfl, g9⟩
      have B9 := Lib.hid (chain B8.out g9)
      have T9 := Lib.hid (T8.out.below g9)
      have RK9 := Lib.hid (RK8.out.below g9 (Nat.le_refl _))
      have RU9 := Lib.hid (RU8.out.below g9 (Nat.le_refl _))
      have HK9 := Lib.hid (HK0.out.below B9.out (Nat.le_refl _))
      have HU9 := Lib.hid (HU0.out.below B9.out (Nat.le_refl _))
      clear IS8 g9 RK8 RU8 HK0 HU0
      go_wp2_with fail
      go_loopw [12] (fun i wr => ∃ j : Nat, j ≤ N ∧ i = .int .i64 (j : Int) ∧ Below w9.heap.size w9 wr) (fun i _ => 1100000 - (intOf i).toNat)
      case atStart => exact ⟨0, Nat.zero_le _, rfl, Below.refl _ _⟩
      case round =>
        obtain ⟨j, hj, rfl, bel⟩ := hrel
        by_cases hlt : j < N
        · have hjc : j < chs.length := by rw [← HN.out]; exact hlt
          obtain ⟨b, off, rfl, hb, hc⟩ := RdK.cell vC_len (RK9.out.below bel (Nat.le_refl _)) j (by rw [RU9.out.1]; exact hjc)
          obtain ⟨b2, off2, rfl, hb2, hc2⟩ := RdK.cell vC_len (HK9.out.below bel (Nat.le_refl _)) j (by rw [HU9.out.1]; exact hjc)
          obtain ⟨hju, hr⟩ := (RU9.out.below bel (Nat.le_refl _)).at j hjc
          obtain ⟨hju2, hr2⟩ := (HU9.out.below bel (Nat.le_refl _)).at j hjc
          have hc := hc 0 (by omega)
          have hc2 := hc2 0 (by omega)
          rw [Nat.mul_one, Nat.add_zero] at hc hc2
          simp only [vC, List.getElem?_cons_zero] at hc hc2
          generalize vs8[j] = uj at hc hr
          generalize us0[j] = uk at hc2 hr2
          generalize chs[j] = lj at hr hr2
          have hgG : (j : Int) < (N : Int) := by omega
          go_wp2_with fail
          refine g_start (by kernel_rfl) ?_
          refine g_take (i := 0) (d := (some 64)) (v := ?_) rfl rfl (by kernel_rfl) (fun _ _ _ h => h) (by rfl) (fun w' hb' => ?_) ?_
          rotate_left
          · (try go_simp); (try with_reducible rfl)
          try simp only [Act.put, List.setIfInBounds_toArray, List.set_cons_zero, List.set_cons_succ]
          refine g_take (i := 1) (d := (some 65)) (v := ?_) rfl rfl (by kernel_rfl) (fun _ _ _ h => h) (by rfl) (fun w' hb' => ?_) ?_
          rotate_left
          · (try go_simp); (try with_reducible rfl)
          try simp only [Act.put, List.setIfInBounds_toArray, List.set_cons_zero, List.set_cons_succ]
          refine g_take (i := 2) (d := (some 66)) (v := ?_) rfl rfl (by kernel_rfl) (fun _ _ _ h => h) (by rfl) (fun w' hb' => ?_) ?_
          rotate_left
          · (try go_simp); (try with_reducible rfl)
          try simp only [Act.put, List.setIfInBounds_toArray, List.set_cons_zero, List.set_cons_succ]
          refine g_take (i := 3) (d := (some 67)) (v := ?_) rfl rfl (by kernel_rfl) (fun _ _ _ h => h) (by rfl) (fun w' hb' => ?_) ?_
          rotate_left
          · have zz := (hb'.cell (p := ⟨b, off + j, none⟩) hb).trans hc; (try go_simp); (try with_reducible rfl)
          try simp only [Act.put, List.setIfInBounds_toArray, List.set_cons_zero, List.set_cons_succ]
          refine g_take (i := 4) (d := (some 68)) (v := ?_) rfl rfl (by kernel_rfl) (fun _ _ _ h => h) (by rfl) (fun w' hb' => ?_) ?_
          rotate_left
          · have k1 := conv_rd (P := Tryd.prog) ((hr.below (B := wr.heap.size) (Below.drew (Below.refl _ _)) (Nat.le_refl _)).below hb' (Nat.le_refl _)) 58 5 9 Tryd.underlying58 Tryd.underlying5 Tryd.underlying9; (try go_simp); (try with_reducible rfl)
          try simp only [Act.put, List.setIfInBounds_toArray, List.set_cons_zero, List.set_cons_succ]
          refine g_take (i := 5) (d := (some 69)) (v := ?_) rfl rfl (by kernel_rfl) (fun _ _ _ h => h) (by rfl) (fun w' hb' => ?_) ?_
          rotate_left
          · (try go_simp); (try with_reducible rfl)
          try simp only [Act.put, List.setIfInBounds_toArray, List.set_cons_zero, List.set_cons_succ]
          refine g_take (i := 6) (d := (some 70)) (v := ?_) rfl rfl (by kernel_rfl) (fun _ _ _ h => h) (by rfl) (fun w' hb' => ?_) ?_
          rotate_left
          · (try go_simp); (try with_reducible rfl)
          try simp only [Act.put, List.setIfInBounds_toArray, List.set_cons_zero, List.set_cons_succ]
          refine g_take (i := 7) (d := (some 71)) (v := ?_) rfl rfl (by kernel_rfl) (fun _ _ _ h => h) (by rfl) (fun w' hb' => ?_) ?_
          rotate_left
          · (try go_simp); (try with_reducible rfl)
          try simp only [Act.put, List.setIfInBounds_toArray, List.set_cons_zero, List.set_cons_succ]
          refine g_take (i := 8) (d := (some 72)) (v := ?_) rfl rfl (by kernel_rfl) (fun _ _ _ h => h) (by rfl) (fun w' hb' => ?_) ?_
          rotate_left
          · have zz := (hb'.cell (p := ⟨b2, off2 + j, none⟩) hb2).trans hc2; (try go_simp); (try with_reducible rfl)
          try simp only [Act.put, List.setIfInBounds_toArray, List.set_cons_zero, List.set_cons_succ]
          refine g_take (i := 9) (d := (some 73)) (v := ?_) rfl rfl (by kernel_rfl) (fun _ _ _ h => h) (by rfl) (fun w' hb' => ?_) ?_
          rotate_left
          · have k2 := conv_rd (P := Tryd.prog) ((hr2.below (B := wr.heap.size) (Below.drew (Below.refl _ _)) (Nat.le_refl _)).below hb' (Nat.le_refl _)) 58 5 9 Tryd.underlying58 Tryd.underlying5 Tryd.underlying9; (try go_simp); (try with_reducible rfl)
          try simp only [Act.put, List.setIfInBounds_toArray, List.set_cons_zero, List.set_cons_succ]
          refine g_take (i := 10) (d := (some 74)) (v := ?_) rfl rfl (by kernel_rfl) (fun _ _ _ h => h) (by rfl) (fun w' hb' => ?_) ?_
          rotate_left
          · (try go_simp); (try with_reducible rfl)
          try simp only [Act.put, List.setIfInBounds_toArray, List.set_cons_zero, List.set_cons_succ]
          refine g_done (by kernel_rfl) ?_
          go_wp2_with fail
          exact ⟨⟨j + 1, by omega, by push_cast; rfl, bel.drew⟩, by simp [intOf]; omega⟩
        · obtain rfl : j = N := by omega
          have AW := awake9_any.at _ (T9.out.below bel)
          have BB := Lib.hid (chain B9.out bel)
          clear bel RK9 RU9 HK9 HU9
          go_wp2_with fail
          refine AW.mono ?_
          rintro e wz ⟨rfl, gz⟩
          have BZ := Lib.hid (chain BB.out gz)
          clear AW gz
          go_wp2_with fail
          go_ret
          exact ⟨rfl, BZ.out⟩
    · obtain rfl := HERR.out hE0
      obtain ⟨a7, c7, rfl, k71, k72⟩ := slice_of_rd rd7
      have hen := (V7.bne_int hE0).1
      have AW := awake9_any.at _ T7.out
      clear rd7 HERR HOK hE0
      go_wp2_with fail
      refine AW.mono ?_
      rintro e wz ⟨rfl, gz⟩
      have BZ := Lib.hid (chain B7.out gz)
      clear AW gz
      go_wp2_with fail
      go_ret
      exact ⟨rfl, BZ.out⟩
end Go.Proofs.YtcehgfganjdghaaDoor
namespace Go.Proofs.YtcehgfganjdghaaDoor
open Go Go.ChangeShapes Go.WideShapes Go.ChangeAt Go.RowKit
set_option linter.unusedVariables false
def laid1 : List (String × DataW Unit) := [("plenum/key.allowed", Rows.laid_plenum_key_allowed)]
theorem gTab : Tryd.prog.globalNamed "plenum/key.allowed" = some 0 := by kernel_rfl
theorem tTab : (Tryd.prog.globals[0]?).map (·.type) = some 141 := by kernel_rfl
theorem cU64 : Tryd.prog.cellsOf 78 = 1 := by kernel_rfl
theorem cTab : Tryd.prog.cellsOf 141 = 2 := by kernel_rfl
def tabL : List Int := [288195191779622912, 576460745860972544]
theorem laid_tab {H : Type} : (Rows.laid_plenum_key_allowed : DataW H) = .agg (tabL.map fun n => .lit (.int .u64 n)) := rfl
theorem tab_of_laid {W : World} (h : laidMetH Tryd.prog laid1 W) : TabAt W := by
  rw [MakeChecks.laidMetH_plain _ _ _ (by kernel_rfl)] at h
  obtain ⟨ps, ⟨g0, t0, cs0, f0, p0, q0, hg0, ht0, hv0, hd0, _, _⟩, _, _⟩ := h
  obtain rfl := Option.some.inj (gTab.symm.trans hg0)
  obtain rfl := Option.some.inj (tTab.symm.trans ht0)
  obtain ⟨xs, m1, rfl, hx1, hlen, hn, hel⟩ := DataW.trod_array Tryd.underlying141 hd0
  simp only [Prod.mk.injEq] at hx1
  have hx := hx1.1
  rw [laid_tab] at hx
  simp only [DataW.agg.injEq] at hx
  rw [cTab] at hlen
  have cell : ∀ i, i < 2 → W.cell? ⟨0, i, none⟩ = some (.int .u64 (tabL.getD i 0)) := by
    intro i hi
    have h1 := hel i hi
    rw [cU64, Nat.mul_one] at h1
    obtain ⟨x, hxi⟩ : ∃ x, xs[i]? = some x := ⟨xs[i]'(by omega), by simp [hn, hi]⟩
    rw [hxi] at h1
    obtain ⟨k, e1, e2, _⟩ := DataW.trod_int Tryd.underlying78 h1
    have h3 : (xs.map (·.1))[i]? = some (.lit (.int .u64 k)) := by rw [List.getElem?_map, hxi, e2]; rfl
    rw [← hx, List.getElem?_map] at h3
    have h4 : tabL[i]? = some (tabL.getD i 0) := by
      have : i < tabL.length := hi
      simp [this]
    rw [h4] at h3
    simp at h3
    have h5 := World.var?_cell hg0 hv0 i
    have h6 : cs0[i]? = some (.int .u64 k) := by
      have : (cs0.toList.drop i)[0]? = some (.int .u64 k) := by
        have := congrArg (fun l => l[0]?) e1
        simpa [List.getElem?_take] using this
      simpa using this
    rw [h5, h6]
    simp [h3]
  refine ⟨?_, cell 0 (by decide), cell 1 (by decide)⟩
  have := World.block_lt_of_cell? W _ (cell 0 (by decide))
  simpa using this
end Go.Proofs.YtcehgfganjdghaaDoor
